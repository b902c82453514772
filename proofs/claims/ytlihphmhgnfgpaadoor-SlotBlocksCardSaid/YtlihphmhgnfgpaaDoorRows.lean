/-
  NARROWER THAN 'FOR EVERY INPUT', by the rows' own cells (each row's printed sentence says how): SlotPuts: laid · SlotGets: laid · SlotBlocks: laid · SlotApart: laid · SlotTorn: laid · HeadFaults: laid · HeadCopies: laid · HeadAgain: laid · HeadFew: laid.
  DERIVED. THE GIVEN ROWS OF THIS SEAT. 9 by the template 'for every input the law returns true; each argument reads behind the call as it read before'; 0 by the template 'total and deterministic' (their statements: YtlihphmhgnfgpaaDoorTotals.lean).
  GIVEN WITH THE SEED: the statements are not yours to turn. If you find one false, say at which input.
  Laid BY PROGRAM, IN A SANDBOX (cutbox-rows.mjs): the forced cells as the released guide's own fill.sh prints them over the translation eaa1a2f222874a6d… (all of the seat's roots in one cut). By AI agents, Wed Nov 11 2026. No macro, syntax, notation, axiom, sorry.
-/
import Derived.Test.YtlihphmhgnfgpaaDoorChecked
import GoSem.Claim
import GoSem.ClaimJoined
import GoSem.ClaimMapViews
import Derived.JoinedTies
import Derived.KernelRfl
namespace Go.Proofs.YtlihphmhgnfgpaaDoor
/- THE CELL 'sum', in the pinned program and in every row, IS THE sha256 OF THE DUMP (.gsa) THAT YtlihphmhgnfgpaaDoorProg.lean LOADS. Nothing in Lean hashes anything: it is a label: what it is worth is what the hold of that sum in a sandbox is worth. -/
noncomputable def Tryd.pinned : Pinned := { name := "ytlihphmhgnfgpaadoor", sum := "eaa1a2f222874a6d9db69d87040f362286bcafe98e137d94625a550c3c70a06b", checked := Tryd.checked }
namespace Rows
def none {H : Type} : Left H := { results := [], args := [] }

/- WHAT THE LISTED PACKAGE-LEVEL VARIABLES READ AS WHEN THE CALL BEGINS. Each datum BY PROGRAM (the guide's laid-datum.mjs) off the statement by which the dump's own 'gosem.cut.vars' lays the variable. In a bare row this is a premise. The card (YtlihphmhgnfgpaaDoorCards.lean) ties it to the program's text. -/
def laid_orchard_sum_lowTable {H : Type} : DataW H := .agg [.lit (.int .u32 0), .lit (.int .u32 4067132163), .lit (.int .u32 3778769143), .lit (.int .u32 324072436), .lit (.int .u32 3348797215), .lit (.int .u32 904991772), .lit (.int .u32 648144872), .lit (.int .u32 3570033899), .lit (.int .u32 2329499855), .lit (.int .u32 2024987596), .lit (.int .u32 1809983544), .lit (.int .u32 2575936315), .lit (.int .u32 1296289744), .lit (.int .u32 3207089363), .lit (.int .u32 2893594407), .lit (.int .u32 1578318884)]
def laid_orchard_sum_highTable {H : Type} : DataW H := .agg [.lit (.int .u32 0), .lit (.int .u32 274646895), .lit (.int .u32 549293790), .lit (.int .u32 820201905), .lit (.int .u32 1098587580), .lit (.int .u32 1361435347), .lit (.int .u32 1640403810), .lit (.int .u32 1905808397), .lit (.int .u32 2197175160), .lit (.int .u32 2460548119), .lit (.int .u32 2722870694), .lit (.int .u32 2987750089), .lit (.int .u32 3280807620), .lit (.int .u32 3553878443), .lit (.int .u32 3811616794), .lit (.int .u32 4084100981)]

/-- 'orchardlaw04.SlotPuts': WHATEVER THE INPUT: true; the input reads as it did. -/
def slotPutsSpec : ChangeSpec := { name := "slotPuts", fn := fun _ => fun
  | [d] => { results := [.lit (.bool true)], args := [d] }
  | _ => none }
def slotPutsRow : OpenClaim := { program := "ytlihphmhgnfgpaadoor", sum := "eaa1a2f222874a6d9db69d87040f362286bcafe98e137d94625a550c3c70a06b", func := "orchard/orchardlaw04.SlotPuts", spec := "slotPuts", named := ["orchard/sum.highTable", "orchard/sum.lowTable"], apart := false, laid := [("orchard/sum.lowTable", laid_orchard_sum_lowTable), ("orchard/sum.highTable", laid_orchard_sum_highTable)] }
def SlotPutsSaid : Prop := slotPutsRow.holds Tryd.pinned (OpenSpec.ofChange slotPutsSpec)

/-- ITS FALSE NEIGHBOUR: 'it returns false'. Refute it at one input. -/
def slotPutsWrong : ChangeSpec := { name := "slotPuts", fn := fun _ => fun
  | [d] => { results := [.lit (.bool false)], args := [d] }
  | _ => none }
def SlotPutsWrongFalsely : Prop := slotPutsRow.holds Tryd.pinned (OpenSpec.ofChange slotPutsWrong)

/-- 'orchardlaw04.SlotGets': WHATEVER THE INPUT: true; the input reads as it did. -/
def slotGetsSpec : ChangeSpec := { name := "slotGets", fn := fun _ => fun
  | [d1, d2, d3, d4] => { results := [.lit (.bool true)], args := [d1, d2, d3, d4] }
  | _ => none }
def slotGetsRow : OpenClaim := { program := "ytlihphmhgnfgpaadoor", sum := "eaa1a2f222874a6d9db69d87040f362286bcafe98e137d94625a550c3c70a06b", func := "orchard/orchardlaw04.SlotGets", spec := "slotGets", named := ["orchard/sum.highTable", "orchard/sum.lowTable"], apart := false, laid := [("orchard/sum.lowTable", laid_orchard_sum_lowTable), ("orchard/sum.highTable", laid_orchard_sum_highTable)] }
def SlotGetsSaid : Prop := slotGetsRow.holds Tryd.pinned (OpenSpec.ofChange slotGetsSpec)

/-- ITS FALSE NEIGHBOUR: 'it returns false'. Refute it at one input. -/
def slotGetsWrong : ChangeSpec := { name := "slotGets", fn := fun _ => fun
  | [d1, d2, d3, d4] => { results := [.lit (.bool false)], args := [d1, d2, d3, d4] }
  | _ => none }
def SlotGetsWrongFalsely : Prop := slotGetsRow.holds Tryd.pinned (OpenSpec.ofChange slotGetsWrong)

/-- 'orchardlaw04.SlotBlocks': WHATEVER THE INPUT: true; the input reads as it did. -/
def slotBlocksSpec : ChangeSpec := { name := "slotBlocks", fn := fun _ => fun
  | [d1, d2, d3, d4, d5] => { results := [.lit (.bool true)], args := [d1, d2, d3, d4, d5] }
  | _ => none }
def slotBlocksRow : OpenClaim := { program := "ytlihphmhgnfgpaadoor", sum := "eaa1a2f222874a6d9db69d87040f362286bcafe98e137d94625a550c3c70a06b", func := "orchard/orchardlaw04.SlotBlocks", spec := "slotBlocks", named := ["orchard/sum.highTable", "orchard/sum.lowTable"], apart := false, laid := [("orchard/sum.lowTable", laid_orchard_sum_lowTable), ("orchard/sum.highTable", laid_orchard_sum_highTable)] }
def SlotBlocksSaid : Prop := slotBlocksRow.holds Tryd.pinned (OpenSpec.ofChange slotBlocksSpec)

/-- ITS FALSE NEIGHBOUR: 'it returns false'. Refute it at one input. -/
def slotBlocksWrong : ChangeSpec := { name := "slotBlocks", fn := fun _ => fun
  | [d1, d2, d3, d4, d5] => { results := [.lit (.bool false)], args := [d1, d2, d3, d4, d5] }
  | _ => none }
def SlotBlocksWrongFalsely : Prop := slotBlocksRow.holds Tryd.pinned (OpenSpec.ofChange slotBlocksWrong)

/-- 'orchardlaw04.SlotApart': WHATEVER THE INPUT: true; the input reads as it did. -/
def slotApartSpec : ChangeSpec := { name := "slotApart", fn := fun _ => fun
  | [d1, d2] => { results := [.lit (.bool true)], args := [d1, d2] }
  | _ => none }
def slotApartRow : OpenClaim := { program := "ytlihphmhgnfgpaadoor", sum := "eaa1a2f222874a6d9db69d87040f362286bcafe98e137d94625a550c3c70a06b", func := "orchard/orchardlaw04.SlotApart", spec := "slotApart", named := ["orchard/sum.highTable", "orchard/sum.lowTable"], apart := false, laid := [("orchard/sum.lowTable", laid_orchard_sum_lowTable), ("orchard/sum.highTable", laid_orchard_sum_highTable)] }
def SlotApartSaid : Prop := slotApartRow.holds Tryd.pinned (OpenSpec.ofChange slotApartSpec)

/-- ITS FALSE NEIGHBOUR: 'it returns false'. Refute it at one input. -/
def slotApartWrong : ChangeSpec := { name := "slotApart", fn := fun _ => fun
  | [d1, d2] => { results := [.lit (.bool false)], args := [d1, d2] }
  | _ => none }
def SlotApartWrongFalsely : Prop := slotApartRow.holds Tryd.pinned (OpenSpec.ofChange slotApartWrong)

/-- 'orchardlaw04.SlotTorn': WHATEVER THE INPUT: true; the input reads as it did. -/
def slotTornSpec : ChangeSpec := { name := "slotTorn", fn := fun _ => fun
  | [d1, d2, d3, d4] => { results := [.lit (.bool true)], args := [d1, d2, d3, d4] }
  | _ => none }
def slotTornRow : OpenClaim := { program := "ytlihphmhgnfgpaadoor", sum := "eaa1a2f222874a6d9db69d87040f362286bcafe98e137d94625a550c3c70a06b", func := "orchard/orchardlaw04.SlotTorn", spec := "slotTorn", unfollowed := true, recurses := true, named := ["orchard/sum.highTable", "orchard/sum.lowTable"], apart := false, laid := [("orchard/sum.lowTable", laid_orchard_sum_lowTable), ("orchard/sum.highTable", laid_orchard_sum_highTable)] }
def SlotTornSaid : Prop := slotTornRow.holds Tryd.pinned (OpenSpec.ofChange slotTornSpec)

/-- ITS FALSE NEIGHBOUR: 'it returns false'. Refute it at one input. -/
def slotTornWrong : ChangeSpec := { name := "slotTorn", fn := fun _ => fun
  | [d1, d2, d3, d4] => { results := [.lit (.bool false)], args := [d1, d2, d3, d4] }
  | _ => none }
def SlotTornWrongFalsely : Prop := slotTornRow.holds Tryd.pinned (OpenSpec.ofChange slotTornWrong)

/-- 'orchardlaw05.HeadFaults': WHATEVER THE INPUT: true; the input reads as it did. -/
def headFaultsSpec : ChangeSpec := { name := "headFaults", fn := fun _ => fun
  | [d1, d2, d3, d4, d5] => { results := [.lit (.bool true)], args := [d1, d2, d3, d4, d5] }
  | _ => none }
def headFaultsRow : OpenClaim := { program := "ytlihphmhgnfgpaadoor", sum := "eaa1a2f222874a6d9db69d87040f362286bcafe98e137d94625a550c3c70a06b", func := "orchard/orchardlaw05.HeadFaults", spec := "headFaults", unfollowed := true, recurses := true, named := ["orchard/sum.highTable", "orchard/sum.lowTable"], apart := false, laid := [("orchard/sum.lowTable", laid_orchard_sum_lowTable), ("orchard/sum.highTable", laid_orchard_sum_highTable)] }
def HeadFaultsSaid : Prop := headFaultsRow.holds Tryd.pinned (OpenSpec.ofChange headFaultsSpec)

/-- ITS FALSE NEIGHBOUR: 'it returns false'. Refute it at one input. -/
def headFaultsWrong : ChangeSpec := { name := "headFaults", fn := fun _ => fun
  | [d1, d2, d3, d4, d5] => { results := [.lit (.bool false)], args := [d1, d2, d3, d4, d5] }
  | _ => none }
def HeadFaultsWrongFalsely : Prop := headFaultsRow.holds Tryd.pinned (OpenSpec.ofChange headFaultsWrong)

/-- 'orchardlaw05.HeadCopies': WHATEVER THE INPUT: true; the input reads as it did. -/
def headCopiesSpec : ChangeSpec := { name := "headCopies", fn := fun _ => fun
  | [d1, d2] => { results := [.lit (.bool true)], args := [d1, d2] }
  | _ => none }
def headCopiesRow : OpenClaim := { program := "ytlihphmhgnfgpaadoor", sum := "eaa1a2f222874a6d9db69d87040f362286bcafe98e137d94625a550c3c70a06b", func := "orchard/orchardlaw05.HeadCopies", spec := "headCopies", named := ["orchard/sum.highTable", "orchard/sum.lowTable"], apart := false, laid := [("orchard/sum.lowTable", laid_orchard_sum_lowTable), ("orchard/sum.highTable", laid_orchard_sum_highTable)] }
def HeadCopiesSaid : Prop := headCopiesRow.holds Tryd.pinned (OpenSpec.ofChange headCopiesSpec)

/-- ITS FALSE NEIGHBOUR: 'it returns false'. Refute it at one input. -/
def headCopiesWrong : ChangeSpec := { name := "headCopies", fn := fun _ => fun
  | [d1, d2] => { results := [.lit (.bool false)], args := [d1, d2] }
  | _ => none }
def HeadCopiesWrongFalsely : Prop := headCopiesRow.holds Tryd.pinned (OpenSpec.ofChange headCopiesWrong)

/-- 'orchardlaw05.HeadAgain': WHATEVER THE INPUT: true; the input reads as it did. -/
def headAgainSpec : ChangeSpec := { name := "headAgain", fn := fun _ => fun
  | [d1, d2, d3, d4, d5] => { results := [.lit (.bool true)], args := [d1, d2, d3, d4, d5] }
  | _ => none }
def headAgainRow : OpenClaim := { program := "ytlihphmhgnfgpaadoor", sum := "eaa1a2f222874a6d9db69d87040f362286bcafe98e137d94625a550c3c70a06b", func := "orchard/orchardlaw05.HeadAgain", spec := "headAgain", unfollowed := true, recurses := true, named := ["orchard/sum.highTable", "orchard/sum.lowTable"], apart := false, laid := [("orchard/sum.lowTable", laid_orchard_sum_lowTable), ("orchard/sum.highTable", laid_orchard_sum_highTable)] }
def HeadAgainSaid : Prop := headAgainRow.holds Tryd.pinned (OpenSpec.ofChange headAgainSpec)

/-- ITS FALSE NEIGHBOUR: 'it returns false'. Refute it at one input. -/
def headAgainWrong : ChangeSpec := { name := "headAgain", fn := fun _ => fun
  | [d1, d2, d3, d4, d5] => { results := [.lit (.bool false)], args := [d1, d2, d3, d4, d5] }
  | _ => none }
def HeadAgainWrongFalsely : Prop := headAgainRow.holds Tryd.pinned (OpenSpec.ofChange headAgainWrong)

/-- 'orchardlaw05.HeadFew': WHATEVER THE INPUT: true; the input reads as it did. -/
def headFewSpec : ChangeSpec := { name := "headFew", fn := fun _ => fun
  | [d1, d2] => { results := [.lit (.bool true)], args := [d1, d2] }
  | _ => none }
def headFewRow : OpenClaim := { program := "ytlihphmhgnfgpaadoor", sum := "eaa1a2f222874a6d9db69d87040f362286bcafe98e137d94625a550c3c70a06b", func := "orchard/orchardlaw05.HeadFew", spec := "headFew", named := ["orchard/sum.highTable", "orchard/sum.lowTable"], apart := false, laid := [("orchard/sum.lowTable", laid_orchard_sum_lowTable), ("orchard/sum.highTable", laid_orchard_sum_highTable)] }
def HeadFewSaid : Prop := headFewRow.holds Tryd.pinned (OpenSpec.ofChange headFewSpec)

/-- ITS FALSE NEIGHBOUR: 'it returns false'. Refute it at one input. -/
def headFewWrong : ChangeSpec := { name := "headFew", fn := fun _ => fun
  | [d1, d2] => { results := [.lit (.bool false)], args := [d1, d2] }
  | _ => none }
def HeadFewWrongFalsely : Prop := headFewRow.holds Tryd.pinned (OpenSpec.ofChange headFewWrong)

/- THE SECOND FORM. 'bulk': how many values and letters a reading holds, each counted each time it is reached (what is shared counts as often as it is met; a slice's spare places count too). A statement '..UptoSaid' is the law's where the arguments, and the package variables that the reading takes, are together of bulk at most 1048576: NARROWER than '..Said'. Prove '..Said' where nothing that the law and all that it calls make is longer than what came in: it says more and counts as full. Else prove '..UptoSaid'. A law counts once. -/
mutual
def uptoBulk {H : Type} : DataW H → Nat
  | .lit (.string bytes) => bytes.length + 1
  | .lit _ => 1
  | .nil => 1
  | .ptr d => uptoBulk d + 1
  | .slice elems spare => uptoBulkAll elems + uptoBulkAll spare + 1
  | .agg parts => uptoBulkAll parts + 1
  | .iface _ d => uptoBulk d + 1
  | .map entries => uptoBulkEntries entries + 1
  | .held _ => 1
def uptoBulkAll {H : Type} : List (DataW H) → Nat
  | [] => 0
  | d :: r => uptoBulk d + uptoBulkAll r
def uptoBulkEntries {H : Type} : List (Lit × DataW H) → Nat
  | [] => 0
  | x :: r => uptoBulkEntry x + uptoBulkEntries r
def uptoBulkEntry {H : Type} : Lit × DataW H → Nat
  | (.string bytes, d) => bytes.length + uptoBulk d + 1
  | (_, d) => uptoBulk d + 1
 end
def uptoSmall : (H : Type) → List (DataW H) → Bool := fun _ ds => decide (uptoBulkAll ds ≤ 1048576)
def OpenSpec.upto (s : _root_.Go.ChangeSpec) : _root_.Go.OpenSpec := { _root_.Go.OpenSpec.ofChange s with cond := some uptoSmall }

/-- 'orchardlaw04.SlotPuts', WHERE WHAT IT READS IS OF BULK AT MOST 1048576: true; the input reads as it did. -/
def slotPutsUptoRow : OpenClaim := { program := "ytlihphmhgnfgpaadoor", sum := "eaa1a2f222874a6d9db69d87040f362286bcafe98e137d94625a550c3c70a06b", func := "orchard/orchardlaw04.SlotPuts", spec := "slotPuts", named := ["orchard/sum.highTable", "orchard/sum.lowTable"], apart := false, laid := [("orchard/sum.lowTable", laid_orchard_sum_lowTable), ("orchard/sum.highTable", laid_orchard_sum_highTable)], narrowed := true }
def SlotPutsUptoSaid : Prop := slotPutsUptoRow.holds Tryd.pinned (OpenSpec.upto slotPutsSpec)

/-- 'orchardlaw04.SlotGets', WHERE WHAT IT READS IS OF BULK AT MOST 1048576: true; the input reads as it did. -/
def slotGetsUptoRow : OpenClaim := { program := "ytlihphmhgnfgpaadoor", sum := "eaa1a2f222874a6d9db69d87040f362286bcafe98e137d94625a550c3c70a06b", func := "orchard/orchardlaw04.SlotGets", spec := "slotGets", named := ["orchard/sum.highTable", "orchard/sum.lowTable"], apart := false, laid := [("orchard/sum.lowTable", laid_orchard_sum_lowTable), ("orchard/sum.highTable", laid_orchard_sum_highTable)], narrowed := true }
def SlotGetsUptoSaid : Prop := slotGetsUptoRow.holds Tryd.pinned (OpenSpec.upto slotGetsSpec)

/-- 'orchardlaw04.SlotBlocks', WHERE WHAT IT READS IS OF BULK AT MOST 1048576: true; the input reads as it did. -/
def slotBlocksUptoRow : OpenClaim := { program := "ytlihphmhgnfgpaadoor", sum := "eaa1a2f222874a6d9db69d87040f362286bcafe98e137d94625a550c3c70a06b", func := "orchard/orchardlaw04.SlotBlocks", spec := "slotBlocks", named := ["orchard/sum.highTable", "orchard/sum.lowTable"], apart := false, laid := [("orchard/sum.lowTable", laid_orchard_sum_lowTable), ("orchard/sum.highTable", laid_orchard_sum_highTable)], narrowed := true }
def SlotBlocksUptoSaid : Prop := slotBlocksUptoRow.holds Tryd.pinned (OpenSpec.upto slotBlocksSpec)

/-- 'orchardlaw04.SlotApart', WHERE WHAT IT READS IS OF BULK AT MOST 1048576: true; the input reads as it did. -/
def slotApartUptoRow : OpenClaim := { program := "ytlihphmhgnfgpaadoor", sum := "eaa1a2f222874a6d9db69d87040f362286bcafe98e137d94625a550c3c70a06b", func := "orchard/orchardlaw04.SlotApart", spec := "slotApart", named := ["orchard/sum.highTable", "orchard/sum.lowTable"], apart := false, laid := [("orchard/sum.lowTable", laid_orchard_sum_lowTable), ("orchard/sum.highTable", laid_orchard_sum_highTable)], narrowed := true }
def SlotApartUptoSaid : Prop := slotApartUptoRow.holds Tryd.pinned (OpenSpec.upto slotApartSpec)

/-- 'orchardlaw04.SlotTorn', WHERE WHAT IT READS IS OF BULK AT MOST 1048576: true; the input reads as it did. -/
def slotTornUptoRow : OpenClaim := { program := "ytlihphmhgnfgpaadoor", sum := "eaa1a2f222874a6d9db69d87040f362286bcafe98e137d94625a550c3c70a06b", func := "orchard/orchardlaw04.SlotTorn", spec := "slotTorn", unfollowed := true, recurses := true, named := ["orchard/sum.highTable", "orchard/sum.lowTable"], apart := false, laid := [("orchard/sum.lowTable", laid_orchard_sum_lowTable), ("orchard/sum.highTable", laid_orchard_sum_highTable)], narrowed := true }
def SlotTornUptoSaid : Prop := slotTornUptoRow.holds Tryd.pinned (OpenSpec.upto slotTornSpec)

/-- 'orchardlaw05.HeadFaults', WHERE WHAT IT READS IS OF BULK AT MOST 1048576: true; the input reads as it did. -/
def headFaultsUptoRow : OpenClaim := { program := "ytlihphmhgnfgpaadoor", sum := "eaa1a2f222874a6d9db69d87040f362286bcafe98e137d94625a550c3c70a06b", func := "orchard/orchardlaw05.HeadFaults", spec := "headFaults", unfollowed := true, recurses := true, named := ["orchard/sum.highTable", "orchard/sum.lowTable"], apart := false, laid := [("orchard/sum.lowTable", laid_orchard_sum_lowTable), ("orchard/sum.highTable", laid_orchard_sum_highTable)], narrowed := true }
def HeadFaultsUptoSaid : Prop := headFaultsUptoRow.holds Tryd.pinned (OpenSpec.upto headFaultsSpec)

/-- 'orchardlaw05.HeadCopies', WHERE WHAT IT READS IS OF BULK AT MOST 1048576: true; the input reads as it did. -/
def headCopiesUptoRow : OpenClaim := { program := "ytlihphmhgnfgpaadoor", sum := "eaa1a2f222874a6d9db69d87040f362286bcafe98e137d94625a550c3c70a06b", func := "orchard/orchardlaw05.HeadCopies", spec := "headCopies", named := ["orchard/sum.highTable", "orchard/sum.lowTable"], apart := false, laid := [("orchard/sum.lowTable", laid_orchard_sum_lowTable), ("orchard/sum.highTable", laid_orchard_sum_highTable)], narrowed := true }
def HeadCopiesUptoSaid : Prop := headCopiesUptoRow.holds Tryd.pinned (OpenSpec.upto headCopiesSpec)

/-- 'orchardlaw05.HeadAgain', WHERE WHAT IT READS IS OF BULK AT MOST 1048576: true; the input reads as it did. -/
def headAgainUptoRow : OpenClaim := { program := "ytlihphmhgnfgpaadoor", sum := "eaa1a2f222874a6d9db69d87040f362286bcafe98e137d94625a550c3c70a06b", func := "orchard/orchardlaw05.HeadAgain", spec := "headAgain", unfollowed := true, recurses := true, named := ["orchard/sum.highTable", "orchard/sum.lowTable"], apart := false, laid := [("orchard/sum.lowTable", laid_orchard_sum_lowTable), ("orchard/sum.highTable", laid_orchard_sum_highTable)], narrowed := true }
def HeadAgainUptoSaid : Prop := headAgainUptoRow.holds Tryd.pinned (OpenSpec.upto headAgainSpec)

/-- 'orchardlaw05.HeadFew', WHERE WHAT IT READS IS OF BULK AT MOST 1048576: true; the input reads as it did. -/
def headFewUptoRow : OpenClaim := { program := "ytlihphmhgnfgpaadoor", sum := "eaa1a2f222874a6d9db69d87040f362286bcafe98e137d94625a550c3c70a06b", func := "orchard/orchardlaw05.HeadFew", spec := "headFew", named := ["orchard/sum.highTable", "orchard/sum.lowTable"], apart := false, laid := [("orchard/sum.lowTable", laid_orchard_sum_lowTable), ("orchard/sum.highTable", laid_orchard_sum_highTable)], narrowed := true }
def HeadFewUptoSaid : Prop := headFewUptoRow.holds Tryd.pinned (OpenSpec.upto headFewSpec)

end Rows
end Go.Proofs.YtlihphmhgnfgpaaDoor
