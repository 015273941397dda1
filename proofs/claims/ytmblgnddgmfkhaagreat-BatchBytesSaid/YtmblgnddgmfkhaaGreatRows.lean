/-
  No cell of these rows narrows 'for every input' (looked for: loops, veiled, ifaces, maps, wideKeys, modest, calm, conditions, laid).
  DERIVED. THE GIVEN ROWS OF THIS SEAT. 6 by the template 'for every input the law returns true; each argument reads behind the call as it read before'; 0 by the template 'total and deterministic' (their statements: YtmblgnddgmfkhaaGreatTotals.lean).
  GIVEN WITH THE SEED: the statements are not yours to turn. If you find one false, say at which input.
  Laid BY PROGRAM, IN A SANDBOX (cutbox-rows.mjs): the forced cells as the released guide's own fill.sh prints them over the translation c4985205d7f3cc9e… (all of the seat's roots in one cut). By AI agents, Wed Nov 11 2026. No macro, syntax, notation, axiom, sorry.
-/
import Derived.Test.YtmblgnddgmfkhaaGreatChecked
import GoSem.Claim
import GoSem.ClaimJoined
import GoSem.ClaimMapViews
import Derived.JoinedTies
import Derived.KernelRfl
namespace Go.Proofs.YtmblgnddgmfkhaaGreat
/- THE CELL 'sum', in the pinned program and in every row, IS THE sha256 OF THE DUMP (.gsa) THAT YtmblgnddgmfkhaaGreatProg.lean LOADS. Nothing in Lean hashes anything: it is a label: what it is worth is what the hold of that sum in a sandbox is worth. -/
noncomputable def Tryz.pinned : Pinned := { name := "ytmblgnddgmfkhaagreat", sum := "c4985205d7f3cc9e7dc4c9087eb0966074cfecff496dbc0d08c342c92cd9f179", checked := Tryz.checked }
namespace Rows
def none {H : Type} : Left H := { results := [], args := [] }

/-- 'doormanlaw15.BatchBytes': WHATEVER THE INPUT: true; the input reads as it did. -/
def batchBytesSpec : ChangeSpec := { name := "batchBytes", fn := fun _ => fun
  | [d1, d2, d3, d4] => { results := [.lit (.bool true)], args := [d1, d2, d3, d4] }
  | _ => none }
def batchBytesRow : OpenClaim := { program := "ytmblgnddgmfkhaagreat", sum := "c4985205d7f3cc9e7dc4c9087eb0966074cfecff496dbc0d08c342c92cd9f179", func := "doorman/doormanlaw15.BatchBytes", spec := "batchBytes", inPlace := ["internal/abi.NoEscape", "internal/bytealg.MakeNoZero", "internal/bytealg.IndexByteString", "internal/bytealg.IndexString"], unfollowed := true, recurses := true, named := ["internal/bytealg.MaxLen"], plainKeys := false, apart := false }
def BatchBytesSaid : Prop := batchBytesRow.holds Tryz.pinned (OpenSpec.ofChange batchBytesSpec)

/-- ITS FALSE NEIGHBOUR: 'it returns false'. Refute it at one input. -/
def batchBytesWrong : ChangeSpec := { name := "batchBytes", fn := fun _ => fun
  | [d1, d2, d3, d4] => { results := [.lit (.bool false)], args := [d1, d2, d3, d4] }
  | _ => none }
def BatchBytesWrongFalsely : Prop := batchBytesRow.holds Tryz.pinned (OpenSpec.ofChange batchBytesWrong)

/-- 'doormanlaw15.BatchLead': WHATEVER THE INPUT: true; the input reads as it did. -/
def batchLeadSpec : ChangeSpec := { name := "batchLead", fn := fun _ => fun
  | [d1, d2] => { results := [.lit (.bool true)], args := [d1, d2] }
  | _ => none }
def batchLeadRow : OpenClaim := { program := "ytmblgnddgmfkhaagreat", sum := "c4985205d7f3cc9e7dc4c9087eb0966074cfecff496dbc0d08c342c92cd9f179", func := "doorman/doormanlaw15.BatchLead", spec := "batchLead", inPlace := ["internal/abi.NoEscape", "internal/bytealg.MakeNoZero", "internal/bytealg.IndexByteString", "internal/bytealg.IndexString"], unfollowed := true, recurses := true, named := ["internal/bytealg.MaxLen"], plainKeys := false, apart := false }
def BatchLeadSaid : Prop := batchLeadRow.holds Tryz.pinned (OpenSpec.ofChange batchLeadSpec)

/-- ITS FALSE NEIGHBOUR: 'it returns false'. Refute it at one input. -/
def batchLeadWrong : ChangeSpec := { name := "batchLead", fn := fun _ => fun
  | [d1, d2] => { results := [.lit (.bool false)], args := [d1, d2] }
  | _ => none }
def BatchLeadWrongFalsely : Prop := batchLeadRow.holds Tryz.pinned (OpenSpec.ofChange batchLeadWrong)

/-- 'doormanlaw15.BatchTrims': WHATEVER THE INPUT: true; the input reads as it did. -/
def batchTrimsSpec : ChangeSpec := { name := "batchTrims", fn := fun _ => fun
  | [d1, d2, d3] => { results := [.lit (.bool true)], args := [d1, d2, d3] }
  | _ => none }
def batchTrimsRow : OpenClaim := { program := "ytmblgnddgmfkhaagreat", sum := "c4985205d7f3cc9e7dc4c9087eb0966074cfecff496dbc0d08c342c92cd9f179", func := "doorman/doormanlaw15.BatchTrims", spec := "batchTrims", inPlace := ["internal/abi.NoEscape", "internal/bytealg.MakeNoZero", "internal/bytealg.IndexByteString", "internal/bytealg.IndexString"], unfollowed := true, recurses := true, named := ["internal/bytealg.MaxLen"], plainKeys := false, apart := false }
def BatchTrimsSaid : Prop := batchTrimsRow.holds Tryz.pinned (OpenSpec.ofChange batchTrimsSpec)

/-- ITS FALSE NEIGHBOUR: 'it returns false'. Refute it at one input. -/
def batchTrimsWrong : ChangeSpec := { name := "batchTrims", fn := fun _ => fun
  | [d1, d2, d3] => { results := [.lit (.bool false)], args := [d1, d2, d3] }
  | _ => none }
def BatchTrimsWrongFalsely : Prop := batchTrimsRow.holds Tryz.pinned (OpenSpec.ofChange batchTrimsWrong)

/-- 'doormanlaw15.BatchOnce': WHATEVER THE INPUT: true; the input reads as it did. -/
def batchOnceSpec : ChangeSpec := { name := "batchOnce", fn := fun _ => fun
  | [d1, d2, d3] => { results := [.lit (.bool true)], args := [d1, d2, d3] }
  | _ => none }
def batchOnceRow : OpenClaim := { program := "ytmblgnddgmfkhaagreat", sum := "c4985205d7f3cc9e7dc4c9087eb0966074cfecff496dbc0d08c342c92cd9f179", func := "doorman/doormanlaw15.BatchOnce", spec := "batchOnce", inPlace := ["internal/abi.NoEscape", "internal/bytealg.MakeNoZero", "internal/bytealg.IndexByteString", "internal/bytealg.IndexString"], unfollowed := true, recurses := true, named := ["internal/bytealg.MaxLen"], plainKeys := false, apart := false }
def BatchOnceSaid : Prop := batchOnceRow.holds Tryz.pinned (OpenSpec.ofChange batchOnceSpec)

/-- ITS FALSE NEIGHBOUR: 'it returns false'. Refute it at one input. -/
def batchOnceWrong : ChangeSpec := { name := "batchOnce", fn := fun _ => fun
  | [d1, d2, d3] => { results := [.lit (.bool false)], args := [d1, d2, d3] }
  | _ => none }
def BatchOnceWrongFalsely : Prop := batchOnceRow.holds Tryz.pinned (OpenSpec.ofChange batchOnceWrong)

/-- 'doormanlaw15.BatchRoom': WHATEVER THE INPUT: true; the input reads as it did. -/
def batchRoomSpec : ChangeSpec := { name := "batchRoom", fn := fun _ => fun
  | [d1, d2] => { results := [.lit (.bool true)], args := [d1, d2] }
  | _ => none }
def batchRoomRow : OpenClaim := { program := "ytmblgnddgmfkhaagreat", sum := "c4985205d7f3cc9e7dc4c9087eb0966074cfecff496dbc0d08c342c92cd9f179", func := "doorman/doormanlaw15.BatchRoom", spec := "batchRoom", inPlace := ["internal/abi.NoEscape", "internal/bytealg.MakeNoZero", "internal/bytealg.IndexByteString", "internal/bytealg.IndexString"], unfollowed := true, recurses := true, named := ["internal/bytealg.MaxLen"], plainKeys := false, apart := false }
def BatchRoomSaid : Prop := batchRoomRow.holds Tryz.pinned (OpenSpec.ofChange batchRoomSpec)

/-- ITS FALSE NEIGHBOUR: 'it returns false'. Refute it at one input. -/
def batchRoomWrong : ChangeSpec := { name := "batchRoom", fn := fun _ => fun
  | [d1, d2] => { results := [.lit (.bool false)], args := [d1, d2] }
  | _ => none }
def BatchRoomWrongFalsely : Prop := batchRoomRow.holds Tryz.pinned (OpenSpec.ofChange batchRoomWrong)

/-- 'doormanlaw15.BatchKept': WHATEVER THE INPUT: true; the input reads as it did. -/
def batchKeptSpec : ChangeSpec := { name := "batchKept", fn := fun _ => fun
  | [d1, d2, d3] => { results := [.lit (.bool true)], args := [d1, d2, d3] }
  | _ => none }
def batchKeptRow : OpenClaim := { program := "ytmblgnddgmfkhaagreat", sum := "c4985205d7f3cc9e7dc4c9087eb0966074cfecff496dbc0d08c342c92cd9f179", func := "doorman/doormanlaw15.BatchKept", spec := "batchKept", inPlace := ["internal/abi.NoEscape", "internal/bytealg.MakeNoZero", "internal/bytealg.IndexByteString", "internal/bytealg.IndexString"], unfollowed := true, recurses := true, named := ["internal/bytealg.MaxLen"], plainKeys := false, apart := false }
def BatchKeptSaid : Prop := batchKeptRow.holds Tryz.pinned (OpenSpec.ofChange batchKeptSpec)

/-- ITS FALSE NEIGHBOUR: 'it returns false'. Refute it at one input. -/
def batchKeptWrong : ChangeSpec := { name := "batchKept", fn := fun _ => fun
  | [d1, d2, d3] => { results := [.lit (.bool false)], args := [d1, d2, d3] }
  | _ => none }
def BatchKeptWrongFalsely : Prop := batchKeptRow.holds Tryz.pinned (OpenSpec.ofChange batchKeptWrong)

/- THE SECOND FORM. 'bulk': how many values and letters a reading holds, each counted each time it is reached (what is shared counts as often as it is met; a slice's spare places count too). A statement '..UptoSaid' is the law's where the arguments, and the package variables that the reading takes, are together of bulk at most 1048576: NARROWER than '..Said'. Prove '..Said' where nothing that the law and all that it calls make is longer than what came in: it says more and counts as full. Else prove '..UptoSaid'. A law counts once. -/
mutual
def uptoBulk {H : Type} : DataW H → Nat
  | .lit (.string bytes) => bytes.length + 1
  | .lit _ => 1
  | .nil => 1
  | .ptr d => uptoBulk d + 1
  | .slice elems spare => uptoBulkAll elems + uptoBulkAll spare + 1
  | .agg parts => uptoBulkAll parts + 1
  | .iface _ d => uptoBulk d + 1
  | .map entries => uptoBulkEntries entries + 1
  | .held _ => 1
def uptoBulkAll {H : Type} : List (DataW H) → Nat
  | [] => 0
  | d :: r => uptoBulk d + uptoBulkAll r
def uptoBulkEntries {H : Type} : List (Lit × DataW H) → Nat
  | [] => 0
  | x :: r => uptoBulkEntry x + uptoBulkEntries r
def uptoBulkEntry {H : Type} : Lit × DataW H → Nat
  | (.string bytes, d) => bytes.length + uptoBulk d + 1
  | (_, d) => uptoBulk d + 1
 end
def uptoSmall : (H : Type) → List (DataW H) → Bool := fun _ ds => decide (uptoBulkAll ds ≤ 1048576)
def OpenSpec.upto (s : _root_.Go.ChangeSpec) : _root_.Go.OpenSpec := { _root_.Go.OpenSpec.ofChange s with cond := some uptoSmall }

/-- 'doormanlaw15.BatchBytes', WHERE WHAT IT READS IS OF BULK AT MOST 1048576: true; the input reads as it did. -/
def batchBytesUptoRow : OpenClaim := { program := "ytmblgnddgmfkhaagreat", sum := "c4985205d7f3cc9e7dc4c9087eb0966074cfecff496dbc0d08c342c92cd9f179", func := "doorman/doormanlaw15.BatchBytes", spec := "batchBytes", inPlace := ["internal/abi.NoEscape", "internal/bytealg.MakeNoZero", "internal/bytealg.IndexByteString", "internal/bytealg.IndexString"], unfollowed := true, recurses := true, named := ["internal/bytealg.MaxLen"], plainKeys := false, apart := false, narrowed := true }
def BatchBytesUptoSaid : Prop := batchBytesUptoRow.holds Tryz.pinned (OpenSpec.upto batchBytesSpec)

/-- 'doormanlaw15.BatchLead', WHERE WHAT IT READS IS OF BULK AT MOST 1048576: true; the input reads as it did. -/
def batchLeadUptoRow : OpenClaim := { program := "ytmblgnddgmfkhaagreat", sum := "c4985205d7f3cc9e7dc4c9087eb0966074cfecff496dbc0d08c342c92cd9f179", func := "doorman/doormanlaw15.BatchLead", spec := "batchLead", inPlace := ["internal/abi.NoEscape", "internal/bytealg.MakeNoZero", "internal/bytealg.IndexByteString", "internal/bytealg.IndexString"], unfollowed := true, recurses := true, named := ["internal/bytealg.MaxLen"], plainKeys := false, apart := false, narrowed := true }
def BatchLeadUptoSaid : Prop := batchLeadUptoRow.holds Tryz.pinned (OpenSpec.upto batchLeadSpec)

/-- 'doormanlaw15.BatchTrims', WHERE WHAT IT READS IS OF BULK AT MOST 1048576: true; the input reads as it did. -/
def batchTrimsUptoRow : OpenClaim := { program := "ytmblgnddgmfkhaagreat", sum := "c4985205d7f3cc9e7dc4c9087eb0966074cfecff496dbc0d08c342c92cd9f179", func := "doorman/doormanlaw15.BatchTrims", spec := "batchTrims", inPlace := ["internal/abi.NoEscape", "internal/bytealg.MakeNoZero", "internal/bytealg.IndexByteString", "internal/bytealg.IndexString"], unfollowed := true, recurses := true, named := ["internal/bytealg.MaxLen"], plainKeys := false, apart := false, narrowed := true }
def BatchTrimsUptoSaid : Prop := batchTrimsUptoRow.holds Tryz.pinned (OpenSpec.upto batchTrimsSpec)

/-- 'doormanlaw15.BatchOnce', WHERE WHAT IT READS IS OF BULK AT MOST 1048576: true; the input reads as it did. -/
def batchOnceUptoRow : OpenClaim := { program := "ytmblgnddgmfkhaagreat", sum := "c4985205d7f3cc9e7dc4c9087eb0966074cfecff496dbc0d08c342c92cd9f179", func := "doorman/doormanlaw15.BatchOnce", spec := "batchOnce", inPlace := ["internal/abi.NoEscape", "internal/bytealg.MakeNoZero", "internal/bytealg.IndexByteString", "internal/bytealg.IndexString"], unfollowed := true, recurses := true, named := ["internal/bytealg.MaxLen"], plainKeys := false, apart := false, narrowed := true }
def BatchOnceUptoSaid : Prop := batchOnceUptoRow.holds Tryz.pinned (OpenSpec.upto batchOnceSpec)

/-- 'doormanlaw15.BatchRoom', WHERE WHAT IT READS IS OF BULK AT MOST 1048576: true; the input reads as it did. -/
def batchRoomUptoRow : OpenClaim := { program := "ytmblgnddgmfkhaagreat", sum := "c4985205d7f3cc9e7dc4c9087eb0966074cfecff496dbc0d08c342c92cd9f179", func := "doorman/doormanlaw15.BatchRoom", spec := "batchRoom", inPlace := ["internal/abi.NoEscape", "internal/bytealg.MakeNoZero", "internal/bytealg.IndexByteString", "internal/bytealg.IndexString"], unfollowed := true, recurses := true, named := ["internal/bytealg.MaxLen"], plainKeys := false, apart := false, narrowed := true }
def BatchRoomUptoSaid : Prop := batchRoomUptoRow.holds Tryz.pinned (OpenSpec.upto batchRoomSpec)

/-- 'doormanlaw15.BatchKept', WHERE WHAT IT READS IS OF BULK AT MOST 1048576: true; the input reads as it did. -/
def batchKeptUptoRow : OpenClaim := { program := "ytmblgnddgmfkhaagreat", sum := "c4985205d7f3cc9e7dc4c9087eb0966074cfecff496dbc0d08c342c92cd9f179", func := "doorman/doormanlaw15.BatchKept", spec := "batchKept", inPlace := ["internal/abi.NoEscape", "internal/bytealg.MakeNoZero", "internal/bytealg.IndexByteString", "internal/bytealg.IndexString"], unfollowed := true, recurses := true, named := ["internal/bytealg.MaxLen"], plainKeys := false, apart := false, narrowed := true }
def BatchKeptUptoSaid : Prop := batchKeptUptoRow.holds Tryz.pinned (OpenSpec.upto batchKeptSpec)

end Rows
end Go.Proofs.YtmblgnddgmfkhaaGreat
