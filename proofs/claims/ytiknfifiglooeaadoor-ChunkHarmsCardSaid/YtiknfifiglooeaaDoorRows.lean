/-
  NARROWER THAN 'FOR EVERY INPUT', by the rows' own cells (each row's printed sentence says how): PlogHarms: laid · PlogBlocks: laid · ChunkCuts: laid · ChunkPuts: laid · ChunkHarms: laid · ChunkBlocks: laid · ChunkAreas: laid · ChunkMended: laid · ChunkOthers: laid.
  DERIVED. THE GIVEN ROWS OF THIS SEAT. 9 by the template 'for every input the law returns true; each argument reads behind the call as it read before'; 0 by the template 'total and deterministic' (their statements: YtiknfifiglooeaaDoorTotals.lean).
  GIVEN WITH THE SEED: the statements are not yours to turn. If you find one false, say at which input.
  Laid BY PROGRAM, IN A SANDBOX (cutbox-rows.mjs): the forced cells as the released guide's own fill.sh prints them over the translation c235e6fb552e1c22… (all of the seat's roots in one cut). By AI agents, Wed Nov 11 2026. No macro, syntax, notation, axiom, sorry.
-/
import Derived.Test.YtiknfifiglooeaaDoorChecked
import GoSem.Claim
import GoSem.ClaimJoined
import GoSem.ClaimMapViews
import Derived.JoinedTies
import Derived.KernelRfl
namespace Go.Proofs.YtiknfifiglooeaaDoor
/- THE CELL 'sum', in the pinned program and in every row, IS THE sha256 OF THE DUMP (.gsa) THAT YtiknfifiglooeaaDoorProg.lean LOADS. Nothing in Lean hashes anything: it is a label: what it is worth is what the hold of that sum in a sandbox is worth. -/
noncomputable def Tryd.pinned : Pinned := { name := "ytiknfifiglooeaadoor", sum := "c235e6fb552e1c22abfe1daa3f70304373ea97a402b87955b145c31f45800888", checked := Tryd.checked }
namespace Rows
def none {H : Type} : Left H := { results := [], args := [] }

/- WHAT THE LISTED PACKAGE-LEVEL VARIABLES READ AS WHEN THE CALL BEGINS. Each datum BY PROGRAM (the guide's laid-datum.mjs) off the statement by which the dump's own 'gosem.cut.vars' lays the variable. In a bare row this is a premise. The card (YtiknfifiglooeaaDoorCards.lean) ties it to the program's text. -/
def laid_orchard_sum_lowTable {H : Type} : DataW H := .agg [.lit (.int .u32 0), .lit (.int .u32 4067132163), .lit (.int .u32 3778769143), .lit (.int .u32 324072436), .lit (.int .u32 3348797215), .lit (.int .u32 904991772), .lit (.int .u32 648144872), .lit (.int .u32 3570033899), .lit (.int .u32 2329499855), .lit (.int .u32 2024987596), .lit (.int .u32 1809983544), .lit (.int .u32 2575936315), .lit (.int .u32 1296289744), .lit (.int .u32 3207089363), .lit (.int .u32 2893594407), .lit (.int .u32 1578318884)]
def laid_orchard_sum_highTable {H : Type} : DataW H := .agg [.lit (.int .u32 0), .lit (.int .u32 274646895), .lit (.int .u32 549293790), .lit (.int .u32 820201905), .lit (.int .u32 1098587580), .lit (.int .u32 1361435347), .lit (.int .u32 1640403810), .lit (.int .u32 1905808397), .lit (.int .u32 2197175160), .lit (.int .u32 2460548119), .lit (.int .u32 2722870694), .lit (.int .u32 2987750089), .lit (.int .u32 3280807620), .lit (.int .u32 3553878443), .lit (.int .u32 3811616794), .lit (.int .u32 4084100981)]

/-- 'orchardlaw06.PlogHarms': WHATEVER THE INPUT: true; the input reads as it did. -/
def plogHarmsSpec : ChangeSpec := { name := "plogHarms", fn := fun _ => fun
  | [d1, d2] => { results := [.lit (.bool true)], args := [d1, d2] }
  | _ => none }
def plogHarmsRow : OpenClaim := { program := "ytiknfifiglooeaadoor", sum := "c235e6fb552e1c22abfe1daa3f70304373ea97a402b87955b145c31f45800888", func := "orchard/orchardlaw06.PlogHarms", spec := "plogHarms", unfollowed := true, recurses := true, named := ["orchard/sum.highTable", "orchard/sum.lowTable"], plainKeys := false, apart := false, laid := [("orchard/sum.lowTable", laid_orchard_sum_lowTable), ("orchard/sum.highTable", laid_orchard_sum_highTable)] }
def PlogHarmsSaid : Prop := plogHarmsRow.holds Tryd.pinned (OpenSpec.ofChange plogHarmsSpec)

/-- ITS FALSE NEIGHBOUR: 'it returns false'. Refute it at one input. -/
def plogHarmsWrong : ChangeSpec := { name := "plogHarms", fn := fun _ => fun
  | [d1, d2] => { results := [.lit (.bool false)], args := [d1, d2] }
  | _ => none }
def PlogHarmsWrongFalsely : Prop := plogHarmsRow.holds Tryd.pinned (OpenSpec.ofChange plogHarmsWrong)

/-- 'orchardlaw06.PlogBlocks': WHATEVER THE INPUT: true; the input reads as it did. -/
def plogBlocksSpec : ChangeSpec := { name := "plogBlocks", fn := fun _ => fun
  | [d] => { results := [.lit (.bool true)], args := [d] }
  | _ => none }
def plogBlocksRow : OpenClaim := { program := "ytiknfifiglooeaadoor", sum := "c235e6fb552e1c22abfe1daa3f70304373ea97a402b87955b145c31f45800888", func := "orchard/orchardlaw06.PlogBlocks", spec := "plogBlocks", unfollowed := true, recurses := true, named := ["orchard/sum.highTable", "orchard/sum.lowTable"], plainKeys := false, apart := false, laid := [("orchard/sum.lowTable", laid_orchard_sum_lowTable), ("orchard/sum.highTable", laid_orchard_sum_highTable)] }
def PlogBlocksSaid : Prop := plogBlocksRow.holds Tryd.pinned (OpenSpec.ofChange plogBlocksSpec)

/-- ITS FALSE NEIGHBOUR: 'it returns false'. Refute it at one input. -/
def plogBlocksWrong : ChangeSpec := { name := "plogBlocks", fn := fun _ => fun
  | [d] => { results := [.lit (.bool false)], args := [d] }
  | _ => none }
def PlogBlocksWrongFalsely : Prop := plogBlocksRow.holds Tryd.pinned (OpenSpec.ofChange plogBlocksWrong)

/-- 'orchardlaw07.ChunkCuts': WHATEVER THE INPUT: true; the input reads as it did. -/
def chunkCutsSpec : ChangeSpec := { name := "chunkCuts", fn := fun _ => fun
  | [d1, d2, d3, d4] => { results := [.lit (.bool true)], args := [d1, d2, d3, d4] }
  | _ => none }
def chunkCutsRow : OpenClaim := { program := "ytiknfifiglooeaadoor", sum := "c235e6fb552e1c22abfe1daa3f70304373ea97a402b87955b145c31f45800888", func := "orchard/orchardlaw07.ChunkCuts", spec := "chunkCuts", unfollowed := true, recurses := true, named := ["orchard/sum.highTable", "orchard/sum.lowTable"], plainKeys := false, apart := false, laid := [("orchard/sum.lowTable", laid_orchard_sum_lowTable), ("orchard/sum.highTable", laid_orchard_sum_highTable)] }
def ChunkCutsSaid : Prop := chunkCutsRow.holds Tryd.pinned (OpenSpec.ofChange chunkCutsSpec)

/-- ITS FALSE NEIGHBOUR: 'it returns false'. Refute it at one input. -/
def chunkCutsWrong : ChangeSpec := { name := "chunkCuts", fn := fun _ => fun
  | [d1, d2, d3, d4] => { results := [.lit (.bool false)], args := [d1, d2, d3, d4] }
  | _ => none }
def ChunkCutsWrongFalsely : Prop := chunkCutsRow.holds Tryd.pinned (OpenSpec.ofChange chunkCutsWrong)

/-- 'orchardlaw07.ChunkPuts': WHATEVER THE INPUT: true; the input reads as it did. -/
def chunkPutsSpec : ChangeSpec := { name := "chunkPuts", fn := fun _ => fun
  | [d] => { results := [.lit (.bool true)], args := [d] }
  | _ => none }
def chunkPutsRow : OpenClaim := { program := "ytiknfifiglooeaadoor", sum := "c235e6fb552e1c22abfe1daa3f70304373ea97a402b87955b145c31f45800888", func := "orchard/orchardlaw07.ChunkPuts", spec := "chunkPuts", inPlace := ["internal/abi.NoEscape"], unfollowed := true, recurses := true, named := ["orchard/sum.highTable", "orchard/sum.lowTable"], plainKeys := false, apart := false, laid := [("orchard/sum.lowTable", laid_orchard_sum_lowTable), ("orchard/sum.highTable", laid_orchard_sum_highTable)] }
def ChunkPutsSaid : Prop := chunkPutsRow.holds Tryd.pinned (OpenSpec.ofChange chunkPutsSpec)

/-- ITS FALSE NEIGHBOUR: 'it returns false'. Refute it at one input. -/
def chunkPutsWrong : ChangeSpec := { name := "chunkPuts", fn := fun _ => fun
  | [d] => { results := [.lit (.bool false)], args := [d] }
  | _ => none }
def ChunkPutsWrongFalsely : Prop := chunkPutsRow.holds Tryd.pinned (OpenSpec.ofChange chunkPutsWrong)

/-- 'orchardlaw07.ChunkHarms': WHATEVER THE INPUT: true; the input reads as it did. -/
def chunkHarmsSpec : ChangeSpec := { name := "chunkHarms", fn := fun _ => fun
  | [d1, d2, d3, d4, d5] => { results := [.lit (.bool true)], args := [d1, d2, d3, d4, d5] }
  | _ => none }
def chunkHarmsRow : OpenClaim := { program := "ytiknfifiglooeaadoor", sum := "c235e6fb552e1c22abfe1daa3f70304373ea97a402b87955b145c31f45800888", func := "orchard/orchardlaw07.ChunkHarms", spec := "chunkHarms", inPlace := ["internal/abi.NoEscape"], unfollowed := true, recurses := true, named := ["orchard/sum.highTable", "orchard/sum.lowTable"], plainKeys := false, apart := false, laid := [("orchard/sum.lowTable", laid_orchard_sum_lowTable), ("orchard/sum.highTable", laid_orchard_sum_highTable)] }
def ChunkHarmsSaid : Prop := chunkHarmsRow.holds Tryd.pinned (OpenSpec.ofChange chunkHarmsSpec)

/-- ITS FALSE NEIGHBOUR: 'it returns false'. Refute it at one input. -/
def chunkHarmsWrong : ChangeSpec := { name := "chunkHarms", fn := fun _ => fun
  | [d1, d2, d3, d4, d5] => { results := [.lit (.bool false)], args := [d1, d2, d3, d4, d5] }
  | _ => none }
def ChunkHarmsWrongFalsely : Prop := chunkHarmsRow.holds Tryd.pinned (OpenSpec.ofChange chunkHarmsWrong)

/-- 'orchardlaw07.ChunkBlocks': WHATEVER THE INPUT: true; the input reads as it did. -/
def chunkBlocksSpec : ChangeSpec := { name := "chunkBlocks", fn := fun _ => fun
  | [d1, d2, d3, d4] => { results := [.lit (.bool true)], args := [d1, d2, d3, d4] }
  | _ => none }
def chunkBlocksRow : OpenClaim := { program := "ytiknfifiglooeaadoor", sum := "c235e6fb552e1c22abfe1daa3f70304373ea97a402b87955b145c31f45800888", func := "orchard/orchardlaw07.ChunkBlocks", spec := "chunkBlocks", inPlace := ["internal/abi.NoEscape"], unfollowed := true, recurses := true, named := ["orchard/sum.highTable", "orchard/sum.lowTable"], plainKeys := false, apart := false, laid := [("orchard/sum.lowTable", laid_orchard_sum_lowTable), ("orchard/sum.highTable", laid_orchard_sum_highTable)] }
def ChunkBlocksSaid : Prop := chunkBlocksRow.holds Tryd.pinned (OpenSpec.ofChange chunkBlocksSpec)

/-- ITS FALSE NEIGHBOUR: 'it returns false'. Refute it at one input. -/
def chunkBlocksWrong : ChangeSpec := { name := "chunkBlocks", fn := fun _ => fun
  | [d1, d2, d3, d4] => { results := [.lit (.bool false)], args := [d1, d2, d3, d4] }
  | _ => none }
def ChunkBlocksWrongFalsely : Prop := chunkBlocksRow.holds Tryd.pinned (OpenSpec.ofChange chunkBlocksWrong)

/-- 'orchardlaw07.ChunkAreas': WHATEVER THE INPUT: true; the input reads as it did. -/
def chunkAreasSpec : ChangeSpec := { name := "chunkAreas", fn := fun _ => fun
  | [d] => { results := [.lit (.bool true)], args := [d] }
  | _ => none }
def chunkAreasRow : OpenClaim := { program := "ytiknfifiglooeaadoor", sum := "c235e6fb552e1c22abfe1daa3f70304373ea97a402b87955b145c31f45800888", func := "orchard/orchardlaw07.ChunkAreas", spec := "chunkAreas", inPlace := ["internal/abi.NoEscape"], unfollowed := true, recurses := true, named := ["orchard/sum.highTable", "orchard/sum.lowTable"], plainKeys := false, apart := false, laid := [("orchard/sum.lowTable", laid_orchard_sum_lowTable), ("orchard/sum.highTable", laid_orchard_sum_highTable)] }
def ChunkAreasSaid : Prop := chunkAreasRow.holds Tryd.pinned (OpenSpec.ofChange chunkAreasSpec)

/-- ITS FALSE NEIGHBOUR: 'it returns false'. Refute it at one input. -/
def chunkAreasWrong : ChangeSpec := { name := "chunkAreas", fn := fun _ => fun
  | [d] => { results := [.lit (.bool false)], args := [d] }
  | _ => none }
def ChunkAreasWrongFalsely : Prop := chunkAreasRow.holds Tryd.pinned (OpenSpec.ofChange chunkAreasWrong)

/-- 'orchardlaw07.ChunkMended': WHATEVER THE INPUT: true; the input reads as it did. -/
def chunkMendedSpec : ChangeSpec := { name := "chunkMended", fn := fun _ => fun
  | [d1, d2, d3, d4] => { results := [.lit (.bool true)], args := [d1, d2, d3, d4] }
  | _ => none }
def chunkMendedRow : OpenClaim := { program := "ytiknfifiglooeaadoor", sum := "c235e6fb552e1c22abfe1daa3f70304373ea97a402b87955b145c31f45800888", func := "orchard/orchardlaw07.ChunkMended", spec := "chunkMended", unfollowed := true, recurses := true, named := ["orchard/sum.highTable", "orchard/sum.lowTable"], plainKeys := false, apart := false, laid := [("orchard/sum.lowTable", laid_orchard_sum_lowTable), ("orchard/sum.highTable", laid_orchard_sum_highTable)] }
def ChunkMendedSaid : Prop := chunkMendedRow.holds Tryd.pinned (OpenSpec.ofChange chunkMendedSpec)

/-- ITS FALSE NEIGHBOUR: 'it returns false'. Refute it at one input. -/
def chunkMendedWrong : ChangeSpec := { name := "chunkMended", fn := fun _ => fun
  | [d1, d2, d3, d4] => { results := [.lit (.bool false)], args := [d1, d2, d3, d4] }
  | _ => none }
def ChunkMendedWrongFalsely : Prop := chunkMendedRow.holds Tryd.pinned (OpenSpec.ofChange chunkMendedWrong)

/-- 'orchardlaw07.ChunkOthers': WHATEVER THE INPUT: true; the input reads as it did. -/
def chunkOthersSpec : ChangeSpec := { name := "chunkOthers", fn := fun _ => fun
  | [d1, d2, d3] => { results := [.lit (.bool true)], args := [d1, d2, d3] }
  | _ => none }
def chunkOthersRow : OpenClaim := { program := "ytiknfifiglooeaadoor", sum := "c235e6fb552e1c22abfe1daa3f70304373ea97a402b87955b145c31f45800888", func := "orchard/orchardlaw07.ChunkOthers", spec := "chunkOthers", unfollowed := true, recurses := true, named := ["orchard/sum.highTable", "orchard/sum.lowTable"], plainKeys := false, apart := false, laid := [("orchard/sum.lowTable", laid_orchard_sum_lowTable), ("orchard/sum.highTable", laid_orchard_sum_highTable)] }
def ChunkOthersSaid : Prop := chunkOthersRow.holds Tryd.pinned (OpenSpec.ofChange chunkOthersSpec)

/-- ITS FALSE NEIGHBOUR: 'it returns false'. Refute it at one input. -/
def chunkOthersWrong : ChangeSpec := { name := "chunkOthers", fn := fun _ => fun
  | [d1, d2, d3] => { results := [.lit (.bool false)], args := [d1, d2, d3] }
  | _ => none }
def ChunkOthersWrongFalsely : Prop := chunkOthersRow.holds Tryd.pinned (OpenSpec.ofChange chunkOthersWrong)

/- THE SECOND FORM. 'bulk': how many values and letters a reading holds, each counted each time it is reached (what is shared counts as often as it is met; a slice's spare places count too). A statement '..UptoSaid' is the law's where the arguments, and the package variables that the reading takes, are together of bulk at most 1048576: NARROWER than '..Said'. Prove '..Said' where nothing that the law and all that it calls make is longer than what came in: it says more and counts as full. Else prove '..UptoSaid'. A law counts once. -/
mutual
def uptoBulk {H : Type} : DataW H → Nat
  | .lit (.string bytes) => bytes.length + 1
  | .lit _ => 1
  | .nil => 1
  | .ptr d => uptoBulk d + 1
  | .slice elems spare => uptoBulkAll elems + uptoBulkAll spare + 1
  | .agg parts => uptoBulkAll parts + 1
  | .iface _ d => uptoBulk d + 1
  | .map entries => uptoBulkEntries entries + 1
  | .held _ => 1
def uptoBulkAll {H : Type} : List (DataW H) → Nat
  | [] => 0
  | d :: r => uptoBulk d + uptoBulkAll r
def uptoBulkEntries {H : Type} : List (Lit × DataW H) → Nat
  | [] => 0
  | x :: r => uptoBulkEntry x + uptoBulkEntries r
def uptoBulkEntry {H : Type} : Lit × DataW H → Nat
  | (.string bytes, d) => bytes.length + uptoBulk d + 1
  | (_, d) => uptoBulk d + 1
 end
def uptoSmall : (H : Type) → List (DataW H) → Bool := fun _ ds => decide (uptoBulkAll ds ≤ 1048576)
def OpenSpec.upto (s : _root_.Go.ChangeSpec) : _root_.Go.OpenSpec := { _root_.Go.OpenSpec.ofChange s with cond := some uptoSmall }

/-- 'orchardlaw06.PlogHarms', WHERE WHAT IT READS IS OF BULK AT MOST 1048576: true; the input reads as it did. -/
def plogHarmsUptoRow : OpenClaim := { program := "ytiknfifiglooeaadoor", sum := "c235e6fb552e1c22abfe1daa3f70304373ea97a402b87955b145c31f45800888", func := "orchard/orchardlaw06.PlogHarms", spec := "plogHarms", unfollowed := true, recurses := true, named := ["orchard/sum.highTable", "orchard/sum.lowTable"], plainKeys := false, apart := false, laid := [("orchard/sum.lowTable", laid_orchard_sum_lowTable), ("orchard/sum.highTable", laid_orchard_sum_highTable)], narrowed := true }
def PlogHarmsUptoSaid : Prop := plogHarmsUptoRow.holds Tryd.pinned (OpenSpec.upto plogHarmsSpec)

/-- 'orchardlaw06.PlogBlocks', WHERE WHAT IT READS IS OF BULK AT MOST 1048576: true; the input reads as it did. -/
def plogBlocksUptoRow : OpenClaim := { program := "ytiknfifiglooeaadoor", sum := "c235e6fb552e1c22abfe1daa3f70304373ea97a402b87955b145c31f45800888", func := "orchard/orchardlaw06.PlogBlocks", spec := "plogBlocks", unfollowed := true, recurses := true, named := ["orchard/sum.highTable", "orchard/sum.lowTable"], plainKeys := false, apart := false, laid := [("orchard/sum.lowTable", laid_orchard_sum_lowTable), ("orchard/sum.highTable", laid_orchard_sum_highTable)], narrowed := true }
def PlogBlocksUptoSaid : Prop := plogBlocksUptoRow.holds Tryd.pinned (OpenSpec.upto plogBlocksSpec)

/-- 'orchardlaw07.ChunkCuts', WHERE WHAT IT READS IS OF BULK AT MOST 1048576: true; the input reads as it did. -/
def chunkCutsUptoRow : OpenClaim := { program := "ytiknfifiglooeaadoor", sum := "c235e6fb552e1c22abfe1daa3f70304373ea97a402b87955b145c31f45800888", func := "orchard/orchardlaw07.ChunkCuts", spec := "chunkCuts", unfollowed := true, recurses := true, named := ["orchard/sum.highTable", "orchard/sum.lowTable"], plainKeys := false, apart := false, laid := [("orchard/sum.lowTable", laid_orchard_sum_lowTable), ("orchard/sum.highTable", laid_orchard_sum_highTable)], narrowed := true }
def ChunkCutsUptoSaid : Prop := chunkCutsUptoRow.holds Tryd.pinned (OpenSpec.upto chunkCutsSpec)

/-- 'orchardlaw07.ChunkPuts', WHERE WHAT IT READS IS OF BULK AT MOST 1048576: true; the input reads as it did. -/
def chunkPutsUptoRow : OpenClaim := { program := "ytiknfifiglooeaadoor", sum := "c235e6fb552e1c22abfe1daa3f70304373ea97a402b87955b145c31f45800888", func := "orchard/orchardlaw07.ChunkPuts", spec := "chunkPuts", inPlace := ["internal/abi.NoEscape"], unfollowed := true, recurses := true, named := ["orchard/sum.highTable", "orchard/sum.lowTable"], plainKeys := false, apart := false, laid := [("orchard/sum.lowTable", laid_orchard_sum_lowTable), ("orchard/sum.highTable", laid_orchard_sum_highTable)], narrowed := true }
def ChunkPutsUptoSaid : Prop := chunkPutsUptoRow.holds Tryd.pinned (OpenSpec.upto chunkPutsSpec)

/-- 'orchardlaw07.ChunkHarms', WHERE WHAT IT READS IS OF BULK AT MOST 1048576: true; the input reads as it did. -/
def chunkHarmsUptoRow : OpenClaim := { program := "ytiknfifiglooeaadoor", sum := "c235e6fb552e1c22abfe1daa3f70304373ea97a402b87955b145c31f45800888", func := "orchard/orchardlaw07.ChunkHarms", spec := "chunkHarms", inPlace := ["internal/abi.NoEscape"], unfollowed := true, recurses := true, named := ["orchard/sum.highTable", "orchard/sum.lowTable"], plainKeys := false, apart := false, laid := [("orchard/sum.lowTable", laid_orchard_sum_lowTable), ("orchard/sum.highTable", laid_orchard_sum_highTable)], narrowed := true }
def ChunkHarmsUptoSaid : Prop := chunkHarmsUptoRow.holds Tryd.pinned (OpenSpec.upto chunkHarmsSpec)

/-- 'orchardlaw07.ChunkBlocks', WHERE WHAT IT READS IS OF BULK AT MOST 1048576: true; the input reads as it did. -/
def chunkBlocksUptoRow : OpenClaim := { program := "ytiknfifiglooeaadoor", sum := "c235e6fb552e1c22abfe1daa3f70304373ea97a402b87955b145c31f45800888", func := "orchard/orchardlaw07.ChunkBlocks", spec := "chunkBlocks", inPlace := ["internal/abi.NoEscape"], unfollowed := true, recurses := true, named := ["orchard/sum.highTable", "orchard/sum.lowTable"], plainKeys := false, apart := false, laid := [("orchard/sum.lowTable", laid_orchard_sum_lowTable), ("orchard/sum.highTable", laid_orchard_sum_highTable)], narrowed := true }
def ChunkBlocksUptoSaid : Prop := chunkBlocksUptoRow.holds Tryd.pinned (OpenSpec.upto chunkBlocksSpec)

/-- 'orchardlaw07.ChunkAreas', WHERE WHAT IT READS IS OF BULK AT MOST 1048576: true; the input reads as it did. -/
def chunkAreasUptoRow : OpenClaim := { program := "ytiknfifiglooeaadoor", sum := "c235e6fb552e1c22abfe1daa3f70304373ea97a402b87955b145c31f45800888", func := "orchard/orchardlaw07.ChunkAreas", spec := "chunkAreas", inPlace := ["internal/abi.NoEscape"], unfollowed := true, recurses := true, named := ["orchard/sum.highTable", "orchard/sum.lowTable"], plainKeys := false, apart := false, laid := [("orchard/sum.lowTable", laid_orchard_sum_lowTable), ("orchard/sum.highTable", laid_orchard_sum_highTable)], narrowed := true }
def ChunkAreasUptoSaid : Prop := chunkAreasUptoRow.holds Tryd.pinned (OpenSpec.upto chunkAreasSpec)

/-- 'orchardlaw07.ChunkMended', WHERE WHAT IT READS IS OF BULK AT MOST 1048576: true; the input reads as it did. -/
def chunkMendedUptoRow : OpenClaim := { program := "ytiknfifiglooeaadoor", sum := "c235e6fb552e1c22abfe1daa3f70304373ea97a402b87955b145c31f45800888", func := "orchard/orchardlaw07.ChunkMended", spec := "chunkMended", unfollowed := true, recurses := true, named := ["orchard/sum.highTable", "orchard/sum.lowTable"], plainKeys := false, apart := false, laid := [("orchard/sum.lowTable", laid_orchard_sum_lowTable), ("orchard/sum.highTable", laid_orchard_sum_highTable)], narrowed := true }
def ChunkMendedUptoSaid : Prop := chunkMendedUptoRow.holds Tryd.pinned (OpenSpec.upto chunkMendedSpec)

/-- 'orchardlaw07.ChunkOthers', WHERE WHAT IT READS IS OF BULK AT MOST 1048576: true; the input reads as it did. -/
def chunkOthersUptoRow : OpenClaim := { program := "ytiknfifiglooeaadoor", sum := "c235e6fb552e1c22abfe1daa3f70304373ea97a402b87955b145c31f45800888", func := "orchard/orchardlaw07.ChunkOthers", spec := "chunkOthers", unfollowed := true, recurses := true, named := ["orchard/sum.highTable", "orchard/sum.lowTable"], plainKeys := false, apart := false, laid := [("orchard/sum.lowTable", laid_orchard_sum_lowTable), ("orchard/sum.highTable", laid_orchard_sum_highTable)], narrowed := true }
def ChunkOthersUptoSaid : Prop := chunkOthersUptoRow.holds Tryd.pinned (OpenSpec.upto chunkOthersSpec)

end Rows
end Go.Proofs.YtiknfifiglooeaaDoor
