/-
  No cell of these rows narrows 'for every input' (looked for: loops, veiled, ifaces, maps, wideKeys, modest, calm, conditions, laid).
  DERIVED. THE GIVEN ROWS OF THIS SEAT. 5 by the template 'for every input the law returns true; each argument reads behind the call as it read before'; 0 by the template 'total and deterministic' (their statements: YtmfkbddfjfjfkaaTotals.lean).
  GIVEN WITH THE SEED: the statements are not yours to turn. If you find one false, say at which input.
  Laid BY PROGRAM, IN A SANDBOX (cutbox-rows.mjs): the forced cells as the released guide's own fill.sh prints them over the translation eec979b227e10359… (all of the seat's roots in one cut). By AI agents, Wed Nov 11 2026. No macro, syntax, notation, axiom, sorry.
-/
import Derived.Test.YtmfkbddfjfjfkaaChecked
import GoSem.Claim
import GoSem.ClaimJoined
import GoSem.ClaimMapViews
import Derived.JoinedTies
import Derived.KernelRfl
namespace Go.Proofs.Ytmfkbddfjfjfkaa
/- THE CELL 'sum', in the pinned program and in every row, IS THE sha256 OF THE DUMP (.gsa) THAT YtmfkbddfjfjfkaaProg.lean LOADS. Nothing in Lean hashes anything: it is a label: what it is worth is what the hold of that sum in a sandbox is worth. -/
noncomputable def Try.pinned : Pinned := { name := "ytmfkbddfjfjfkaa", sum := "eec979b227e10359d853afe7708be87f5120bd9ba59ab414faab9eb95c588ca0", checked := Try.checked }
namespace Rows
def none {H : Type} : Left H := { results := [], args := [] }

/-- 'orchardlaw03.DevActs': WHATEVER THE INPUT: true; the input reads as it did. -/
def devActsSpec : ChangeSpec := { name := "devActs", fn := fun _ => fun
  | [d1, d2] => { results := [.lit (.bool true)], args := [d1, d2] }
  | _ => none }
def devActsRow : OpenClaim := { program := "ytmfkbddfjfjfkaa", sum := "eec979b227e10359d853afe7708be87f5120bd9ba59ab414faab9eb95c588ca0", func := "orchard/orchardlaw03.DevActs", spec := "devActs", unfollowed := true, recurses := true, apart := false }
def DevActsSaid : Prop := devActsRow.holds Try.pinned (OpenSpec.ofChange devActsSpec)

/-- ITS FALSE NEIGHBOUR: 'it returns false'. Refute it at one input. -/
def devActsWrong : ChangeSpec := { name := "devActs", fn := fun _ => fun
  | [d1, d2] => { results := [.lit (.bool false)], args := [d1, d2] }
  | _ => none }
def DevActsWrongFalsely : Prop := devActsRow.holds Try.pinned (OpenSpec.ofChange devActsWrong)

/-- 'orchardlaw03.DevCrashes': WHATEVER THE INPUT: true; the input reads as it did. -/
def devCrashesSpec : ChangeSpec := { name := "devCrashes", fn := fun _ => fun
  | [d1, d2, d3, d4, d5] => { results := [.lit (.bool true)], args := [d1, d2, d3, d4, d5] }
  | _ => none }
def devCrashesRow : OpenClaim := { program := "ytmfkbddfjfjfkaa", sum := "eec979b227e10359d853afe7708be87f5120bd9ba59ab414faab9eb95c588ca0", func := "orchard/orchardlaw03.DevCrashes", spec := "devCrashes", unfollowed := true, recurses := true, apart := false }
def DevCrashesSaid : Prop := devCrashesRow.holds Try.pinned (OpenSpec.ofChange devCrashesSpec)

/-- ITS FALSE NEIGHBOUR: 'it returns false'. Refute it at one input. -/
def devCrashesWrong : ChangeSpec := { name := "devCrashes", fn := fun _ => fun
  | [d1, d2, d3, d4, d5] => { results := [.lit (.bool false)], args := [d1, d2, d3, d4, d5] }
  | _ => none }
def DevCrashesWrongFalsely : Prop := devCrashesRow.holds Try.pinned (OpenSpec.ofChange devCrashesWrong)

/-- 'orchardlaw03.DevLast': WHATEVER THE INPUT: true; the input reads as it did. -/
def devLastSpec : ChangeSpec := { name := "devLast", fn := fun _ => fun
  | [d1, d2] => { results := [.lit (.bool true)], args := [d1, d2] }
  | _ => none }
def devLastRow : OpenClaim := { program := "ytmfkbddfjfjfkaa", sum := "eec979b227e10359d853afe7708be87f5120bd9ba59ab414faab9eb95c588ca0", func := "orchard/orchardlaw03.DevLast", spec := "devLast", unfollowed := true, recurses := true, apart := false }
def DevLastSaid : Prop := devLastRow.holds Try.pinned (OpenSpec.ofChange devLastSpec)

/-- ITS FALSE NEIGHBOUR: 'it returns false'. Refute it at one input. -/
def devLastWrong : ChangeSpec := { name := "devLast", fn := fun _ => fun
  | [d1, d2] => { results := [.lit (.bool false)], args := [d1, d2] }
  | _ => none }
def DevLastWrongFalsely : Prop := devLastRow.holds Try.pinned (OpenSpec.ofChange devLastWrong)

/-- 'orchardlaw03.DevFlushes': WHATEVER THE INPUT: true; the input reads as it did. -/
def devFlushesSpec : ChangeSpec := { name := "devFlushes", fn := fun _ => fun
  | [d1, d2, d3] => { results := [.lit (.bool true)], args := [d1, d2, d3] }
  | _ => none }
def devFlushesRow : OpenClaim := { program := "ytmfkbddfjfjfkaa", sum := "eec979b227e10359d853afe7708be87f5120bd9ba59ab414faab9eb95c588ca0", func := "orchard/orchardlaw03.DevFlushes", spec := "devFlushes", unfollowed := true, recurses := true, apart := false }
def DevFlushesSaid : Prop := devFlushesRow.holds Try.pinned (OpenSpec.ofChange devFlushesSpec)

/-- ITS FALSE NEIGHBOUR: 'it returns false'. Refute it at one input. -/
def devFlushesWrong : ChangeSpec := { name := "devFlushes", fn := fun _ => fun
  | [d1, d2, d3] => { results := [.lit (.bool false)], args := [d1, d2, d3] }
  | _ => none }
def DevFlushesWrongFalsely : Prop := devFlushesRow.holds Try.pinned (OpenSpec.ofChange devFlushesWrong)

/-- 'orchardlaw03.DevFalls': WHATEVER THE INPUT: true; the input reads as it did. -/
def devFallsSpec : ChangeSpec := { name := "devFalls", fn := fun _ => fun
  | [d1, d2] => { results := [.lit (.bool true)], args := [d1, d2] }
  | _ => none }
def devFallsRow : OpenClaim := { program := "ytmfkbddfjfjfkaa", sum := "eec979b227e10359d853afe7708be87f5120bd9ba59ab414faab9eb95c588ca0", func := "orchard/orchardlaw03.DevFalls", spec := "devFalls", unfollowed := true, recurses := true, apart := false }
def DevFallsSaid : Prop := devFallsRow.holds Try.pinned (OpenSpec.ofChange devFallsSpec)

/-- ITS FALSE NEIGHBOUR: 'it returns false'. Refute it at one input. -/
def devFallsWrong : ChangeSpec := { name := "devFalls", fn := fun _ => fun
  | [d1, d2] => { results := [.lit (.bool false)], args := [d1, d2] }
  | _ => none }
def DevFallsWrongFalsely : Prop := devFallsRow.holds Try.pinned (OpenSpec.ofChange devFallsWrong)

/- THE SECOND FORM. 'bulk': how many values and letters a reading holds, each counted each time it is reached (what is shared counts as often as it is met; a slice's spare places count too). A statement '..UptoSaid' is the law's where the arguments, and the package variables that the reading takes, are together of bulk at most 1048576: NARROWER than '..Said'. Prove '..Said' where nothing that the law and all that it calls make is longer than what came in: it says more and counts as full. Else prove '..UptoSaid'. A law counts once. -/
mutual
def uptoBulk {H : Type} : DataW H → Nat
  | .lit (.string bytes) => bytes.length + 1
  | .lit _ => 1
  | .nil => 1
  | .ptr d => uptoBulk d + 1
  | .slice elems spare => uptoBulkAll elems + uptoBulkAll spare + 1
  | .agg parts => uptoBulkAll parts + 1
  | .iface _ d => uptoBulk d + 1
  | .map entries => uptoBulkEntries entries + 1
  | .held _ => 1
def uptoBulkAll {H : Type} : List (DataW H) → Nat
  | [] => 0
  | d :: r => uptoBulk d + uptoBulkAll r
def uptoBulkEntries {H : Type} : List (Lit × DataW H) → Nat
  | [] => 0
  | x :: r => uptoBulkEntry x + uptoBulkEntries r
def uptoBulkEntry {H : Type} : Lit × DataW H → Nat
  | (.string bytes, d) => bytes.length + uptoBulk d + 1
  | (_, d) => uptoBulk d + 1
 end
def uptoSmall : (H : Type) → List (DataW H) → Bool := fun _ ds => decide (uptoBulkAll ds ≤ 1048576)
def OpenSpec.upto (s : _root_.Go.ChangeSpec) : _root_.Go.OpenSpec := { _root_.Go.OpenSpec.ofChange s with cond := some uptoSmall }

/-- 'orchardlaw03.DevActs', WHERE WHAT IT READS IS OF BULK AT MOST 1048576: true; the input reads as it did. -/
def devActsUptoRow : OpenClaim := { program := "ytmfkbddfjfjfkaa", sum := "eec979b227e10359d853afe7708be87f5120bd9ba59ab414faab9eb95c588ca0", func := "orchard/orchardlaw03.DevActs", spec := "devActs", unfollowed := true, recurses := true, apart := false, narrowed := true }
def DevActsUptoSaid : Prop := devActsUptoRow.holds Try.pinned (OpenSpec.upto devActsSpec)

/-- 'orchardlaw03.DevCrashes', WHERE WHAT IT READS IS OF BULK AT MOST 1048576: true; the input reads as it did. -/
def devCrashesUptoRow : OpenClaim := { program := "ytmfkbddfjfjfkaa", sum := "eec979b227e10359d853afe7708be87f5120bd9ba59ab414faab9eb95c588ca0", func := "orchard/orchardlaw03.DevCrashes", spec := "devCrashes", unfollowed := true, recurses := true, apart := false, narrowed := true }
def DevCrashesUptoSaid : Prop := devCrashesUptoRow.holds Try.pinned (OpenSpec.upto devCrashesSpec)

/-- 'orchardlaw03.DevLast', WHERE WHAT IT READS IS OF BULK AT MOST 1048576: true; the input reads as it did. -/
def devLastUptoRow : OpenClaim := { program := "ytmfkbddfjfjfkaa", sum := "eec979b227e10359d853afe7708be87f5120bd9ba59ab414faab9eb95c588ca0", func := "orchard/orchardlaw03.DevLast", spec := "devLast", unfollowed := true, recurses := true, apart := false, narrowed := true }
def DevLastUptoSaid : Prop := devLastUptoRow.holds Try.pinned (OpenSpec.upto devLastSpec)

/-- 'orchardlaw03.DevFlushes', WHERE WHAT IT READS IS OF BULK AT MOST 1048576: true; the input reads as it did. -/
def devFlushesUptoRow : OpenClaim := { program := "ytmfkbddfjfjfkaa", sum := "eec979b227e10359d853afe7708be87f5120bd9ba59ab414faab9eb95c588ca0", func := "orchard/orchardlaw03.DevFlushes", spec := "devFlushes", unfollowed := true, recurses := true, apart := false, narrowed := true }
def DevFlushesUptoSaid : Prop := devFlushesUptoRow.holds Try.pinned (OpenSpec.upto devFlushesSpec)

/-- 'orchardlaw03.DevFalls', WHERE WHAT IT READS IS OF BULK AT MOST 1048576: true; the input reads as it did. -/
def devFallsUptoRow : OpenClaim := { program := "ytmfkbddfjfjfkaa", sum := "eec979b227e10359d853afe7708be87f5120bd9ba59ab414faab9eb95c588ca0", func := "orchard/orchardlaw03.DevFalls", spec := "devFalls", unfollowed := true, recurses := true, apart := false, narrowed := true }
def DevFallsUptoSaid : Prop := devFallsUptoRow.holds Try.pinned (OpenSpec.upto devFallsSpec)

end Rows
end Go.Proofs.Ytmfkbddfjfjfkaa
