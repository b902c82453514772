/-
  NARROWER THAN 'FOR EVERY INPUT', by the rows' own cells (each row's printed sentence says how): SumLong: laid · SumParts: laid · SumSeals: laid · SumBits: laid · SumOpens: laid.
  DERIVED. THE GIVEN ROWS OF THIS SEAT. 5 by the template 'for every input the law returns true; each argument reads behind the call as it read before'; 0 by the template 'total and deterministic' (their statements: YtefofhejaafgnaaDoorTotals.lean).
  GIVEN WITH THE SEED: the statements are not yours to turn. If you find one false, say at which input.
  Laid BY PROGRAM, IN A SANDBOX (cutbox-rows.mjs): the forced cells as the released guide's own fill.sh prints them over the translation 4aa1c56a05252e90… (all of the seat's roots in one cut). By AI agents, Wed Nov 11 2026. No macro, syntax, notation, axiom, sorry.
-/
import Derived.Test.YtefofhejaafgnaaDoorChecked
import GoSem.Claim
import GoSem.ClaimJoined
import GoSem.ClaimMapViews
import Derived.JoinedTies
import Derived.KernelRfl
namespace Go.Proofs.YtefofhejaafgnaaDoor
/- THE CELL 'sum', in the pinned program and in every row, IS THE sha256 OF THE DUMP (.gsa) THAT YtefofhejaafgnaaDoorProg.lean LOADS. Nothing in Lean hashes anything: it is a label: what it is worth is what the hold of that sum in a sandbox is worth. -/
noncomputable def Tryd.pinned : Pinned := { name := "ytefofhejaafgnaadoor", sum := "4aa1c56a05252e901843bc5c408d7180e961118d5647f0c48fcd3e07ed53fae0", checked := Tryd.checked }
namespace Rows
def none {H : Type} : Left H := { results := [], args := [] }

/- WHAT THE LISTED PACKAGE-LEVEL VARIABLES READ AS WHEN THE CALL BEGINS. Each datum BY PROGRAM (the guide's laid-datum.mjs) off the statement by which the dump's own 'gosem.cut.vars' lays the variable. In a bare row this is a premise. The card (YtefofhejaafgnaaDoorCards.lean) ties it to the program's text. -/
def laid_orchard_sum_lowTable {H : Type} : DataW H := .agg [.lit (.int .u32 0), .lit (.int .u32 4067132163), .lit (.int .u32 3778769143), .lit (.int .u32 324072436), .lit (.int .u32 3348797215), .lit (.int .u32 904991772), .lit (.int .u32 648144872), .lit (.int .u32 3570033899), .lit (.int .u32 2329499855), .lit (.int .u32 2024987596), .lit (.int .u32 1809983544), .lit (.int .u32 2575936315), .lit (.int .u32 1296289744), .lit (.int .u32 3207089363), .lit (.int .u32 2893594407), .lit (.int .u32 1578318884)]
def laid_orchard_sum_highTable {H : Type} : DataW H := .agg [.lit (.int .u32 0), .lit (.int .u32 274646895), .lit (.int .u32 549293790), .lit (.int .u32 820201905), .lit (.int .u32 1098587580), .lit (.int .u32 1361435347), .lit (.int .u32 1640403810), .lit (.int .u32 1905808397), .lit (.int .u32 2197175160), .lit (.int .u32 2460548119), .lit (.int .u32 2722870694), .lit (.int .u32 2987750089), .lit (.int .u32 3280807620), .lit (.int .u32 3553878443), .lit (.int .u32 3811616794), .lit (.int .u32 4084100981)]

/-- 'orchardlaw02.SumLong': WHATEVER THE INPUT: true; the input reads as it did. -/
def sumLongSpec : ChangeSpec := { name := "sumLong", fn := fun _ => fun
  | [d] => { results := [.lit (.bool true)], args := [d] }
  | _ => none }
def sumLongRow : OpenClaim := { program := "ytefofhejaafgnaadoor", sum := "4aa1c56a05252e901843bc5c408d7180e961118d5647f0c48fcd3e07ed53fae0", func := "orchard/orchardlaw02.SumLong", spec := "sumLong", named := ["orchard/sum.highTable", "orchard/sum.lowTable"], apart := false, laid := [("orchard/sum.lowTable", laid_orchard_sum_lowTable), ("orchard/sum.highTable", laid_orchard_sum_highTable)] }
def SumLongSaid : Prop := sumLongRow.holds Tryd.pinned (OpenSpec.ofChange sumLongSpec)

/-- ITS FALSE NEIGHBOUR: 'it returns false'. Refute it at one input. -/
def sumLongWrong : ChangeSpec := { name := "sumLong", fn := fun _ => fun
  | [d] => { results := [.lit (.bool false)], args := [d] }
  | _ => none }
def SumLongWrongFalsely : Prop := sumLongRow.holds Tryd.pinned (OpenSpec.ofChange sumLongWrong)

/-- 'orchardlaw02.SumParts': WHATEVER THE INPUT: true; the input reads as it did. -/
def sumPartsSpec : ChangeSpec := { name := "sumParts", fn := fun _ => fun
  | [d1, d2] => { results := [.lit (.bool true)], args := [d1, d2] }
  | _ => none }
def sumPartsRow : OpenClaim := { program := "ytefofhejaafgnaadoor", sum := "4aa1c56a05252e901843bc5c408d7180e961118d5647f0c48fcd3e07ed53fae0", func := "orchard/orchardlaw02.SumParts", spec := "sumParts", named := ["orchard/sum.highTable", "orchard/sum.lowTable"], apart := false, laid := [("orchard/sum.lowTable", laid_orchard_sum_lowTable), ("orchard/sum.highTable", laid_orchard_sum_highTable)] }
def SumPartsSaid : Prop := sumPartsRow.holds Tryd.pinned (OpenSpec.ofChange sumPartsSpec)

/-- ITS FALSE NEIGHBOUR: 'it returns false'. Refute it at one input. -/
def sumPartsWrong : ChangeSpec := { name := "sumParts", fn := fun _ => fun
  | [d1, d2] => { results := [.lit (.bool false)], args := [d1, d2] }
  | _ => none }
def SumPartsWrongFalsely : Prop := sumPartsRow.holds Tryd.pinned (OpenSpec.ofChange sumPartsWrong)

/-- 'orchardlaw02.SumSeals': WHATEVER THE INPUT: true; the input reads as it did. -/
def sumSealsSpec : ChangeSpec := { name := "sumSeals", fn := fun _ => fun
  | [d1, d2, d3] => { results := [.lit (.bool true)], args := [d1, d2, d3] }
  | _ => none }
def sumSealsRow : OpenClaim := { program := "ytefofhejaafgnaadoor", sum := "4aa1c56a05252e901843bc5c408d7180e961118d5647f0c48fcd3e07ed53fae0", func := "orchard/orchardlaw02.SumSeals", spec := "sumSeals", named := ["orchard/sum.highTable", "orchard/sum.lowTable"], apart := false, laid := [("orchard/sum.lowTable", laid_orchard_sum_lowTable), ("orchard/sum.highTable", laid_orchard_sum_highTable)] }
def SumSealsSaid : Prop := sumSealsRow.holds Tryd.pinned (OpenSpec.ofChange sumSealsSpec)

/-- ITS FALSE NEIGHBOUR: 'it returns false'. Refute it at one input. -/
def sumSealsWrong : ChangeSpec := { name := "sumSeals", fn := fun _ => fun
  | [d1, d2, d3] => { results := [.lit (.bool false)], args := [d1, d2, d3] }
  | _ => none }
def SumSealsWrongFalsely : Prop := sumSealsRow.holds Tryd.pinned (OpenSpec.ofChange sumSealsWrong)

/-- 'orchardlaw02.SumBits': WHATEVER THE INPUT: true; the input reads as it did. -/
def sumBitsSpec : ChangeSpec := { name := "sumBits", fn := fun _ => fun
  | [d1, d2, d3] => { results := [.lit (.bool true)], args := [d1, d2, d3] }
  | _ => none }
def sumBitsRow : OpenClaim := { program := "ytefofhejaafgnaadoor", sum := "4aa1c56a05252e901843bc5c408d7180e961118d5647f0c48fcd3e07ed53fae0", func := "orchard/orchardlaw02.SumBits", spec := "sumBits", named := ["orchard/sum.highTable", "orchard/sum.lowTable"], apart := false, laid := [("orchard/sum.lowTable", laid_orchard_sum_lowTable), ("orchard/sum.highTable", laid_orchard_sum_highTable)] }
def SumBitsSaid : Prop := sumBitsRow.holds Tryd.pinned (OpenSpec.ofChange sumBitsSpec)

/-- ITS FALSE NEIGHBOUR: 'it returns false'. Refute it at one input. -/
def sumBitsWrong : ChangeSpec := { name := "sumBits", fn := fun _ => fun
  | [d1, d2, d3] => { results := [.lit (.bool false)], args := [d1, d2, d3] }
  | _ => none }
def SumBitsWrongFalsely : Prop := sumBitsRow.holds Tryd.pinned (OpenSpec.ofChange sumBitsWrong)

/-- 'orchardlaw02.SumOpens': WHATEVER THE INPUT: true; the input reads as it did. -/
def sumOpensSpec : ChangeSpec := { name := "sumOpens", fn := fun _ => fun
  | [d] => { results := [.lit (.bool true)], args := [d] }
  | _ => none }
def sumOpensRow : OpenClaim := { program := "ytefofhejaafgnaadoor", sum := "4aa1c56a05252e901843bc5c408d7180e961118d5647f0c48fcd3e07ed53fae0", func := "orchard/orchardlaw02.SumOpens", spec := "sumOpens", named := ["orchard/sum.highTable", "orchard/sum.lowTable"], apart := false, laid := [("orchard/sum.lowTable", laid_orchard_sum_lowTable), ("orchard/sum.highTable", laid_orchard_sum_highTable)] }
def SumOpensSaid : Prop := sumOpensRow.holds Tryd.pinned (OpenSpec.ofChange sumOpensSpec)

/-- ITS FALSE NEIGHBOUR: 'it returns false'. Refute it at one input. -/
def sumOpensWrong : ChangeSpec := { name := "sumOpens", fn := fun _ => fun
  | [d] => { results := [.lit (.bool false)], args := [d] }
  | _ => none }
def SumOpensWrongFalsely : Prop := sumOpensRow.holds Tryd.pinned (OpenSpec.ofChange sumOpensWrong)

/- THE SECOND FORM. 'bulk': how many values and letters a reading holds, each counted each time it is reached (what is shared counts as often as it is met; a slice's spare places count too). A statement '..UptoSaid' is the law's where the arguments, and the package variables that the reading takes, are together of bulk at most 1048576: NARROWER than '..Said'. Prove '..Said' where nothing that the law and all that it calls make is longer than what came in: it says more and counts as full. Else prove '..UptoSaid'. A law counts once. -/
mutual
def uptoBulk {H : Type} : DataW H → Nat
  | .lit (.string bytes) => bytes.length + 1
  | .lit _ => 1
  | .nil => 1
  | .ptr d => uptoBulk d + 1
  | .slice elems spare => uptoBulkAll elems + uptoBulkAll spare + 1
  | .agg parts => uptoBulkAll parts + 1
  | .iface _ d => uptoBulk d + 1
  | .map entries => uptoBulkEntries entries + 1
  | .held _ => 1
def uptoBulkAll {H : Type} : List (DataW H) → Nat
  | [] => 0
  | d :: r => uptoBulk d + uptoBulkAll r
def uptoBulkEntries {H : Type} : List (Lit × DataW H) → Nat
  | [] => 0
  | x :: r => uptoBulkEntry x + uptoBulkEntries r
def uptoBulkEntry {H : Type} : Lit × DataW H → Nat
  | (.string bytes, d) => bytes.length + uptoBulk d + 1
  | (_, d) => uptoBulk d + 1
 end
def uptoSmall : (H : Type) → List (DataW H) → Bool := fun _ ds => decide (uptoBulkAll ds ≤ 1048576)
def OpenSpec.upto (s : _root_.Go.ChangeSpec) : _root_.Go.OpenSpec := { _root_.Go.OpenSpec.ofChange s with cond := some uptoSmall }

/-- 'orchardlaw02.SumLong', WHERE WHAT IT READS IS OF BULK AT MOST 1048576: true; the input reads as it did. -/
def sumLongUptoRow : OpenClaim := { program := "ytefofhejaafgnaadoor", sum := "4aa1c56a05252e901843bc5c408d7180e961118d5647f0c48fcd3e07ed53fae0", func := "orchard/orchardlaw02.SumLong", spec := "sumLong", named := ["orchard/sum.highTable", "orchard/sum.lowTable"], apart := false, laid := [("orchard/sum.lowTable", laid_orchard_sum_lowTable), ("orchard/sum.highTable", laid_orchard_sum_highTable)], narrowed := true }
def SumLongUptoSaid : Prop := sumLongUptoRow.holds Tryd.pinned (OpenSpec.upto sumLongSpec)

/-- 'orchardlaw02.SumParts', WHERE WHAT IT READS IS OF BULK AT MOST 1048576: true; the input reads as it did. -/
def sumPartsUptoRow : OpenClaim := { program := "ytefofhejaafgnaadoor", sum := "4aa1c56a05252e901843bc5c408d7180e961118d5647f0c48fcd3e07ed53fae0", func := "orchard/orchardlaw02.SumParts", spec := "sumParts", named := ["orchard/sum.highTable", "orchard/sum.lowTable"], apart := false, laid := [("orchard/sum.lowTable", laid_orchard_sum_lowTable), ("orchard/sum.highTable", laid_orchard_sum_highTable)], narrowed := true }
def SumPartsUptoSaid : Prop := sumPartsUptoRow.holds Tryd.pinned (OpenSpec.upto sumPartsSpec)

/-- 'orchardlaw02.SumSeals', WHERE WHAT IT READS IS OF BULK AT MOST 1048576: true; the input reads as it did. -/
def sumSealsUptoRow : OpenClaim := { program := "ytefofhejaafgnaadoor", sum := "4aa1c56a05252e901843bc5c408d7180e961118d5647f0c48fcd3e07ed53fae0", func := "orchard/orchardlaw02.SumSeals", spec := "sumSeals", named := ["orchard/sum.highTable", "orchard/sum.lowTable"], apart := false, laid := [("orchard/sum.lowTable", laid_orchard_sum_lowTable), ("orchard/sum.highTable", laid_orchard_sum_highTable)], narrowed := true }
def SumSealsUptoSaid : Prop := sumSealsUptoRow.holds Tryd.pinned (OpenSpec.upto sumSealsSpec)

/-- 'orchardlaw02.SumBits', WHERE WHAT IT READS IS OF BULK AT MOST 1048576: true; the input reads as it did. -/
def sumBitsUptoRow : OpenClaim := { program := "ytefofhejaafgnaadoor", sum := "4aa1c56a05252e901843bc5c408d7180e961118d5647f0c48fcd3e07ed53fae0", func := "orchard/orchardlaw02.SumBits", spec := "sumBits", named := ["orchard/sum.highTable", "orchard/sum.lowTable"], apart := false, laid := [("orchard/sum.lowTable", laid_orchard_sum_lowTable), ("orchard/sum.highTable", laid_orchard_sum_highTable)], narrowed := true }
def SumBitsUptoSaid : Prop := sumBitsUptoRow.holds Tryd.pinned (OpenSpec.upto sumBitsSpec)

/-- 'orchardlaw02.SumOpens', WHERE WHAT IT READS IS OF BULK AT MOST 1048576: true; the input reads as it did. -/
def sumOpensUptoRow : OpenClaim := { program := "ytefofhejaafgnaadoor", sum := "4aa1c56a05252e901843bc5c408d7180e961118d5647f0c48fcd3e07ed53fae0", func := "orchard/orchardlaw02.SumOpens", spec := "sumOpens", named := ["orchard/sum.highTable", "orchard/sum.lowTable"], apart := false, laid := [("orchard/sum.lowTable", laid_orchard_sum_lowTable), ("orchard/sum.highTable", laid_orchard_sum_highTable)], narrowed := true }
def SumOpensUptoSaid : Prop := sumOpensUptoRow.holds Tryd.pinned (OpenSpec.upto sumOpensSpec)

end Rows
end Go.Proofs.YtefofhejaafgnaaDoor
