/-
  No cell of these rows narrows 'for every input' (looked for: loops, veiled, ifaces, maps, wideKeys, modest, calm, conditions, laid).
  DERIVED. THE GIVEN ROWS OF THIS SEAT. 7 by the template 'for every input the law returns true; each argument reads behind the call as it read before'; 0 by the template 'total and deterministic' (their statements: YtefofhejaafgnaaTotals.lean).
  GIVEN WITH THE SEED: the statements are not yours to turn. If you find one false, say at which input.
  Laid BY PROGRAM, IN A SANDBOX (cutbox-rows.mjs): the forced cells as the released guide's own fill.sh prints them over the translation 000176422e8d97b4… (all of the seat's roots in one cut). By AI agents, Wed Nov 11 2026. No macro, syntax, notation, axiom, sorry.
-/
import Derived.Test.YtefofhejaafgnaaChecked
import GoSem.Claim
import GoSem.ClaimJoined
import GoSem.ClaimMapViews
import Derived.JoinedTies
import Derived.KernelRfl
namespace Go.Proofs.Ytefofhejaafgnaa
/- THE CELL 'sum', in the pinned program and in every row, IS THE sha256 OF THE DUMP (.gsa) THAT YtefofhejaafgnaaProg.lean LOADS. Nothing in Lean hashes anything: it is a label: what it is worth is what the hold of that sum in a sandbox is worth. -/
noncomputable def Try.pinned : Pinned := { name := "ytefofhejaafgnaa", sum := "000176422e8d97b48d3876f17701e4d36cf1cb86defc3ae2d1113e12bd8caeb4", checked := Try.checked }
namespace Rows
def none {H : Type} : Left H := { results := [], args := [] }

/-- 'orchardlaw01.PithLays': WHATEVER THE INPUT: true; the input reads as it did. -/
def pithLaysSpec : ChangeSpec := { name := "pithLays", fn := fun _ => fun
  | [d] => { results := [.lit (.bool true)], args := [d] }
  | _ => none }
def pithLaysRow : OpenClaim := { program := "ytefofhejaafgnaa", sum := "000176422e8d97b48d3876f17701e4d36cf1cb86defc3ae2d1113e12bd8caeb4", func := "orchard/orchardlaw01.PithLays", spec := "pithLays", apart := false }
def PithLaysSaid : Prop := pithLaysRow.holds Try.pinned (OpenSpec.ofChange pithLaysSpec)

/-- ITS FALSE NEIGHBOUR: 'it returns false'. Refute it at one input. -/
def pithLaysWrong : ChangeSpec := { name := "pithLays", fn := fun _ => fun
  | [d] => { results := [.lit (.bool false)], args := [d] }
  | _ => none }
def PithLaysWrongFalsely : Prop := pithLaysRow.holds Try.pinned (OpenSpec.ofChange pithLaysWrong)

/-- 'orchardlaw01.PithReads': WHATEVER THE INPUT: true; the input reads as it did. -/
def pithReadsSpec : ChangeSpec := { name := "pithReads", fn := fun _ => fun
  | [d1, d2] => { results := [.lit (.bool true)], args := [d1, d2] }
  | _ => none }
def pithReadsRow : OpenClaim := { program := "ytefofhejaafgnaa", sum := "000176422e8d97b48d3876f17701e4d36cf1cb86defc3ae2d1113e12bd8caeb4", func := "orchard/orchardlaw01.PithReads", spec := "pithReads", apart := false }
def PithReadsSaid : Prop := pithReadsRow.holds Try.pinned (OpenSpec.ofChange pithReadsSpec)

/-- ITS FALSE NEIGHBOUR: 'it returns false'. Refute it at one input. -/
def pithReadsWrong : ChangeSpec := { name := "pithReads", fn := fun _ => fun
  | [d1, d2] => { results := [.lit (.bool false)], args := [d1, d2] }
  | _ => none }
def PithReadsWrongFalsely : Prop := pithReadsRow.holds Try.pinned (OpenSpec.ofChange pithReadsWrong)

/-- 'orchardlaw01.PithMosts': WHATEVER THE INPUT: true; the input reads as it did. -/
def pithMostsSpec : ChangeSpec := { name := "pithMosts", fn := fun _ => fun
  | [d1, d2, d3, d4] => { results := [.lit (.bool true)], args := [d1, d2, d3, d4] }
  | _ => none }
def pithMostsRow : OpenClaim := { program := "ytefofhejaafgnaa", sum := "000176422e8d97b48d3876f17701e4d36cf1cb86defc3ae2d1113e12bd8caeb4", func := "orchard/orchardlaw01.PithMosts", spec := "pithMosts", apart := false }
def PithMostsSaid : Prop := pithMostsRow.holds Try.pinned (OpenSpec.ofChange pithMostsSpec)

/-- ITS FALSE NEIGHBOUR: 'it returns false'. Refute it at one input. -/
def pithMostsWrong : ChangeSpec := { name := "pithMosts", fn := fun _ => fun
  | [d1, d2, d3, d4] => { results := [.lit (.bool false)], args := [d1, d2, d3, d4] }
  | _ => none }
def PithMostsWrongFalsely : Prop := pithMostsRow.holds Try.pinned (OpenSpec.ofChange pithMostsWrong)

/-- 'orchardlaw01.PithOrders': WHATEVER THE INPUT: true; the input reads as it did. -/
def pithOrdersSpec : ChangeSpec := { name := "pithOrders", fn := fun _ => fun
  | [d1, d2] => { results := [.lit (.bool true)], args := [d1, d2] }
  | _ => none }
def pithOrdersRow : OpenClaim := { program := "ytefofhejaafgnaa", sum := "000176422e8d97b48d3876f17701e4d36cf1cb86defc3ae2d1113e12bd8caeb4", func := "orchard/orchardlaw01.PithOrders", spec := "pithOrders", apart := false }
def PithOrdersSaid : Prop := pithOrdersRow.holds Try.pinned (OpenSpec.ofChange pithOrdersSpec)

/-- ITS FALSE NEIGHBOUR: 'it returns false'. Refute it at one input. -/
def pithOrdersWrong : ChangeSpec := { name := "pithOrders", fn := fun _ => fun
  | [d1, d2] => { results := [.lit (.bool false)], args := [d1, d2] }
  | _ => none }
def PithOrdersWrongFalsely : Prop := pithOrdersRow.holds Try.pinned (OpenSpec.ofChange pithOrdersWrong)

/-- 'orchardlaw01.PithJoins': WHATEVER THE INPUT: true; the input reads as it did. -/
def pithJoinsSpec : ChangeSpec := { name := "pithJoins", fn := fun _ => fun
  | [d1, d2, d3] => { results := [.lit (.bool true)], args := [d1, d2, d3] }
  | _ => none }
def pithJoinsRow : OpenClaim := { program := "ytefofhejaafgnaa", sum := "000176422e8d97b48d3876f17701e4d36cf1cb86defc3ae2d1113e12bd8caeb4", func := "orchard/orchardlaw01.PithJoins", spec := "pithJoins", unfollowed := true, recurses := true, apart := false }
def PithJoinsSaid : Prop := pithJoinsRow.holds Try.pinned (OpenSpec.ofChange pithJoinsSpec)

/-- ITS FALSE NEIGHBOUR: 'it returns false'. Refute it at one input. -/
def pithJoinsWrong : ChangeSpec := { name := "pithJoins", fn := fun _ => fun
  | [d1, d2, d3] => { results := [.lit (.bool false)], args := [d1, d2, d3] }
  | _ => none }
def PithJoinsWrongFalsely : Prop := pithJoinsRow.holds Try.pinned (OpenSpec.ofChange pithJoinsWrong)

/-- 'orchardlaw01.PithCuts': WHATEVER THE INPUT: true; the input reads as it did. -/
def pithCutsSpec : ChangeSpec := { name := "pithCuts", fn := fun _ => fun
  | [d1, d2, d3] => { results := [.lit (.bool true)], args := [d1, d2, d3] }
  | _ => none }
def pithCutsRow : OpenClaim := { program := "ytefofhejaafgnaa", sum := "000176422e8d97b48d3876f17701e4d36cf1cb86defc3ae2d1113e12bd8caeb4", func := "orchard/orchardlaw01.PithCuts", spec := "pithCuts", unfollowed := true, recurses := true, apart := false }
def PithCutsSaid : Prop := pithCutsRow.holds Try.pinned (OpenSpec.ofChange pithCutsSpec)

/-- ITS FALSE NEIGHBOUR: 'it returns false'. Refute it at one input. -/
def pithCutsWrong : ChangeSpec := { name := "pithCuts", fn := fun _ => fun
  | [d1, d2, d3] => { results := [.lit (.bool false)], args := [d1, d2, d3] }
  | _ => none }
def PithCutsWrongFalsely : Prop := pithCutsRow.holds Try.pinned (OpenSpec.ofChange pithCutsWrong)

/-- 'orchardlaw01.PithFails': WHATEVER THE INPUT: true; the input reads as it did. -/
def pithFailsSpec : ChangeSpec := { name := "pithFails", fn := fun _ => fun
  | [d1, d2] => { results := [.lit (.bool true)], args := [d1, d2] }
  | _ => none }
def pithFailsRow : OpenClaim := { program := "ytefofhejaafgnaa", sum := "000176422e8d97b48d3876f17701e4d36cf1cb86defc3ae2d1113e12bd8caeb4", func := "orchard/orchardlaw01.PithFails", spec := "pithFails", apart := false }
def PithFailsSaid : Prop := pithFailsRow.holds Try.pinned (OpenSpec.ofChange pithFailsSpec)

/-- ITS FALSE NEIGHBOUR: 'it returns false'. Refute it at one input. -/
def pithFailsWrong : ChangeSpec := { name := "pithFails", fn := fun _ => fun
  | [d1, d2] => { results := [.lit (.bool false)], args := [d1, d2] }
  | _ => none }
def PithFailsWrongFalsely : Prop := pithFailsRow.holds Try.pinned (OpenSpec.ofChange pithFailsWrong)

/- THE SECOND FORM. 'bulk': how many values and letters a reading holds, each counted each time it is reached (what is shared counts as often as it is met; a slice's spare places count too). A statement '..UptoSaid' is the law's where the arguments, and the package variables that the reading takes, are together of bulk at most 1048576: NARROWER than '..Said'. Prove '..Said' where nothing that the law and all that it calls make is longer than what came in: it says more and counts as full. Else prove '..UptoSaid'. A law counts once. -/
mutual
def uptoBulk {H : Type} : DataW H → Nat
  | .lit (.string bytes) => bytes.length + 1
  | .lit _ => 1
  | .nil => 1
  | .ptr d => uptoBulk d + 1
  | .slice elems spare => uptoBulkAll elems + uptoBulkAll spare + 1
  | .agg parts => uptoBulkAll parts + 1
  | .iface _ d => uptoBulk d + 1
  | .map entries => uptoBulkEntries entries + 1
  | .held _ => 1
def uptoBulkAll {H : Type} : List (DataW H) → Nat
  | [] => 0
  | d :: r => uptoBulk d + uptoBulkAll r
def uptoBulkEntries {H : Type} : List (Lit × DataW H) → Nat
  | [] => 0
  | x :: r => uptoBulkEntry x + uptoBulkEntries r
def uptoBulkEntry {H : Type} : Lit × DataW H → Nat
  | (.string bytes, d) => bytes.length + uptoBulk d + 1
  | (_, d) => uptoBulk d + 1
 end
def uptoSmall : (H : Type) → List (DataW H) → Bool := fun _ ds => decide (uptoBulkAll ds ≤ 1048576)
def OpenSpec.upto (s : _root_.Go.ChangeSpec) : _root_.Go.OpenSpec := { _root_.Go.OpenSpec.ofChange s with cond := some uptoSmall }

/-- 'orchardlaw01.PithLays', WHERE WHAT IT READS IS OF BULK AT MOST 1048576: true; the input reads as it did. -/
def pithLaysUptoRow : OpenClaim := { program := "ytefofhejaafgnaa", sum := "000176422e8d97b48d3876f17701e4d36cf1cb86defc3ae2d1113e12bd8caeb4", func := "orchard/orchardlaw01.PithLays", spec := "pithLays", apart := false, narrowed := true }
def PithLaysUptoSaid : Prop := pithLaysUptoRow.holds Try.pinned (OpenSpec.upto pithLaysSpec)

/-- 'orchardlaw01.PithReads', WHERE WHAT IT READS IS OF BULK AT MOST 1048576: true; the input reads as it did. -/
def pithReadsUptoRow : OpenClaim := { program := "ytefofhejaafgnaa", sum := "000176422e8d97b48d3876f17701e4d36cf1cb86defc3ae2d1113e12bd8caeb4", func := "orchard/orchardlaw01.PithReads", spec := "pithReads", apart := false, narrowed := true }
def PithReadsUptoSaid : Prop := pithReadsUptoRow.holds Try.pinned (OpenSpec.upto pithReadsSpec)

/-- 'orchardlaw01.PithMosts', WHERE WHAT IT READS IS OF BULK AT MOST 1048576: true; the input reads as it did. -/
def pithMostsUptoRow : OpenClaim := { program := "ytefofhejaafgnaa", sum := "000176422e8d97b48d3876f17701e4d36cf1cb86defc3ae2d1113e12bd8caeb4", func := "orchard/orchardlaw01.PithMosts", spec := "pithMosts", apart := false, narrowed := true }
def PithMostsUptoSaid : Prop := pithMostsUptoRow.holds Try.pinned (OpenSpec.upto pithMostsSpec)

/-- 'orchardlaw01.PithOrders', WHERE WHAT IT READS IS OF BULK AT MOST 1048576: true; the input reads as it did. -/
def pithOrdersUptoRow : OpenClaim := { program := "ytefofhejaafgnaa", sum := "000176422e8d97b48d3876f17701e4d36cf1cb86defc3ae2d1113e12bd8caeb4", func := "orchard/orchardlaw01.PithOrders", spec := "pithOrders", apart := false, narrowed := true }
def PithOrdersUptoSaid : Prop := pithOrdersUptoRow.holds Try.pinned (OpenSpec.upto pithOrdersSpec)

/-- 'orchardlaw01.PithJoins', WHERE WHAT IT READS IS OF BULK AT MOST 1048576: true; the input reads as it did. -/
def pithJoinsUptoRow : OpenClaim := { program := "ytefofhejaafgnaa", sum := "000176422e8d97b48d3876f17701e4d36cf1cb86defc3ae2d1113e12bd8caeb4", func := "orchard/orchardlaw01.PithJoins", spec := "pithJoins", unfollowed := true, recurses := true, apart := false, narrowed := true }
def PithJoinsUptoSaid : Prop := pithJoinsUptoRow.holds Try.pinned (OpenSpec.upto pithJoinsSpec)

/-- 'orchardlaw01.PithCuts', WHERE WHAT IT READS IS OF BULK AT MOST 1048576: true; the input reads as it did. -/
def pithCutsUptoRow : OpenClaim := { program := "ytefofhejaafgnaa", sum := "000176422e8d97b48d3876f17701e4d36cf1cb86defc3ae2d1113e12bd8caeb4", func := "orchard/orchardlaw01.PithCuts", spec := "pithCuts", unfollowed := true, recurses := true, apart := false, narrowed := true }
def PithCutsUptoSaid : Prop := pithCutsUptoRow.holds Try.pinned (OpenSpec.upto pithCutsSpec)

/-- 'orchardlaw01.PithFails', WHERE WHAT IT READS IS OF BULK AT MOST 1048576: true; the input reads as it did. -/
def pithFailsUptoRow : OpenClaim := { program := "ytefofhejaafgnaa", sum := "000176422e8d97b48d3876f17701e4d36cf1cb86defc3ae2d1113e12bd8caeb4", func := "orchard/orchardlaw01.PithFails", spec := "pithFails", apart := false, narrowed := true }
def PithFailsUptoSaid : Prop := pithFailsUptoRow.holds Try.pinned (OpenSpec.upto pithFailsSpec)

end Rows
end Go.Proofs.Ytefofhejaafgnaa
