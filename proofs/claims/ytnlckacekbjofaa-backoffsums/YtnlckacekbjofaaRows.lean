/-
  No cell of these rows narrows 'for every input' (looked for: loops, veiled, ifaces, maps, wideKeys, modest, calm, conditions, laid).
  DERIVED. THE GIVEN ROWS OF THIS SEAT. 4 by the template 'for every input the law returns true; each argument reads behind the call as it read before'; 0 by the template 'total and deterministic' (their statements: YtnlckacekbjofaaTotals.lean).
  GIVEN WITH THE SEED: the statements are not yours to turn. If you find one false, say at which input.
  Laid BY PROGRAM, IN A SANDBOX (cutbox-rows.mjs): the forced cells as the released guide's own fill.sh prints them over the translation 7fbed2d543d462b8… (all of the seat's roots in one cut). By AI agents, Wed Nov 11 2026. No macro, syntax, notation, axiom, sorry.
-/
import Derived.Test.YtnlckacekbjofaaChecked
import GoSem.Claim
import GoSem.ClaimJoined
import GoSem.ClaimMapViews
import Derived.JoinedTies
import Derived.KernelRfl
namespace Go.Proofs.Ytnlckacekbjofaa
/- THE CELL 'sum', in the pinned program and in every row, IS THE sha256 OF THE DUMP (.gsa) THAT YtnlckacekbjofaaProg.lean LOADS. Nothing in Lean hashes anything: it is a label: what it is worth is what the hold of that sum in a sandbox is worth. -/
noncomputable def Try.pinned : Pinned := { name := "ytnlckacekbjofaa", sum := "7fbed2d543d462b842d7a00cebe951622970aa0dd957c0ff7270bf03cbdc5c20", checked := Try.checked }
namespace Rows
def none {H : Type} : Left H := { results := [], args := [] }

/-- 'heronlaw19.BackoffGrows': WHATEVER THE INPUT: true; the input reads as it did. -/
def backoffGrowsSpec : ChangeSpec := { name := "backoffGrows", fn := fun _ => fun
  | [d1, d2, d3] => { results := [.lit (.bool true)], args := [d1, d2, d3] }
  | _ => none }
def backoffGrowsRow : OpenClaim := { program := "ytnlckacekbjofaa", sum := "7fbed2d543d462b842d7a00cebe951622970aa0dd957c0ff7270bf03cbdc5c20", func := "heron/heronlaw19.BackoffGrows", spec := "backoffGrows", apart := false }
def BackoffGrowsSaid : Prop := backoffGrowsRow.holds Try.pinned (OpenSpec.ofChange backoffGrowsSpec)

/-- ITS FALSE NEIGHBOUR: 'it returns false'. Refute it at one input. -/
def backoffGrowsWrong : ChangeSpec := { name := "backoffGrows", fn := fun _ => fun
  | [d1, d2, d3] => { results := [.lit (.bool false)], args := [d1, d2, d3] }
  | _ => none }
def BackoffGrowsWrongFalsely : Prop := backoffGrowsRow.holds Try.pinned (OpenSpec.ofChange backoffGrowsWrong)

/-- 'heronlaw19.BackoffSums': WHATEVER THE INPUT: true; the input reads as it did. -/
def backoffSumsSpec : ChangeSpec := { name := "backoffSums", fn := fun _ => fun
  | [d1, d2, d3] => { results := [.lit (.bool true)], args := [d1, d2, d3] }
  | _ => none }
def backoffSumsRow : OpenClaim := { program := "ytnlckacekbjofaa", sum := "7fbed2d543d462b842d7a00cebe951622970aa0dd957c0ff7270bf03cbdc5c20", func := "heron/heronlaw19.BackoffSums", spec := "backoffSums", apart := false }
def BackoffSumsSaid : Prop := backoffSumsRow.holds Try.pinned (OpenSpec.ofChange backoffSumsSpec)

/-- ITS FALSE NEIGHBOUR: 'it returns false'. Refute it at one input. -/
def backoffSumsWrong : ChangeSpec := { name := "backoffSums", fn := fun _ => fun
  | [d1, d2, d3] => { results := [.lit (.bool false)], args := [d1, d2, d3] }
  | _ => none }
def BackoffSumsWrongFalsely : Prop := backoffSumsRow.holds Try.pinned (OpenSpec.ofChange backoffSumsWrong)

/-- 'heronlaw19.BackoffDue': WHATEVER THE INPUT: true; the input reads as it did. -/
def backoffDueSpec : ChangeSpec := { name := "backoffDue", fn := fun _ => fun
  | [d1, d2, d3] => { results := [.lit (.bool true)], args := [d1, d2, d3] }
  | _ => none }
def backoffDueRow : OpenClaim := { program := "ytnlckacekbjofaa", sum := "7fbed2d543d462b842d7a00cebe951622970aa0dd957c0ff7270bf03cbdc5c20", func := "heron/heronlaw19.BackoffDue", spec := "backoffDue", apart := false }
def BackoffDueSaid : Prop := backoffDueRow.holds Try.pinned (OpenSpec.ofChange backoffDueSpec)

/-- ITS FALSE NEIGHBOUR: 'it returns false'. Refute it at one input. -/
def backoffDueWrong : ChangeSpec := { name := "backoffDue", fn := fun _ => fun
  | [d1, d2, d3] => { results := [.lit (.bool false)], args := [d1, d2, d3] }
  | _ => none }
def BackoffDueWrongFalsely : Prop := backoffDueRow.holds Try.pinned (OpenSpec.ofChange backoffDueWrong)

/-- 'heronlaw19.BackoffExact': WHATEVER THE INPUT: true; the input reads as it did. -/
def backoffExactSpec : ChangeSpec := { name := "backoffExact", fn := fun _ => fun
  | [d] => { results := [.lit (.bool true)], args := [d] }
  | _ => none }
def backoffExactRow : OpenClaim := { program := "ytnlckacekbjofaa", sum := "7fbed2d543d462b842d7a00cebe951622970aa0dd957c0ff7270bf03cbdc5c20", func := "heron/heronlaw19.BackoffExact", spec := "backoffExact", apart := false }
def BackoffExactSaid : Prop := backoffExactRow.holds Try.pinned (OpenSpec.ofChange backoffExactSpec)

/-- ITS FALSE NEIGHBOUR: 'it returns false'. Refute it at one input. -/
def backoffExactWrong : ChangeSpec := { name := "backoffExact", fn := fun _ => fun
  | [d] => { results := [.lit (.bool false)], args := [d] }
  | _ => none }
def BackoffExactWrongFalsely : Prop := backoffExactRow.holds Try.pinned (OpenSpec.ofChange backoffExactWrong)

/- THE SECOND FORM. 'bulk': how many values and letters a reading holds, each counted each time it is reached (what is shared counts as often as it is met; a slice's spare places count too). A statement '..UptoSaid' is the law's where the arguments, and the package variables that the reading takes, are together of bulk at most 1048576: NARROWER than '..Said'. Prove '..Said' where nothing that the law and all that it calls make is longer than what came in: it says more and counts as full. Else prove '..UptoSaid'. A law counts once. -/
mutual
def uptoBulk {H : Type} : DataW H → Nat
  | .lit (.string bytes) => bytes.length + 1
  | .lit _ => 1
  | .nil => 1
  | .ptr d => uptoBulk d + 1
  | .slice elems spare => uptoBulkAll elems + uptoBulkAll spare + 1
  | .agg parts => uptoBulkAll parts + 1
  | .iface _ d => uptoBulk d + 1
  | .map entries => uptoBulkEntries entries + 1
  | .held _ => 1
def uptoBulkAll {H : Type} : List (DataW H) → Nat
  | [] => 0
  | d :: r => uptoBulk d + uptoBulkAll r
def uptoBulkEntries {H : Type} : List (Lit × DataW H) → Nat
  | [] => 0
  | x :: r => uptoBulkEntry x + uptoBulkEntries r
def uptoBulkEntry {H : Type} : Lit × DataW H → Nat
  | (.string bytes, d) => bytes.length + uptoBulk d + 1
  | (_, d) => uptoBulk d + 1
 end
def uptoSmall : (H : Type) → List (DataW H) → Bool := fun _ ds => decide (uptoBulkAll ds ≤ 1048576)
def OpenSpec.upto (s : _root_.Go.ChangeSpec) : _root_.Go.OpenSpec := { _root_.Go.OpenSpec.ofChange s with cond := some uptoSmall }

/-- 'heronlaw19.BackoffGrows', WHERE WHAT IT READS IS OF BULK AT MOST 1048576: true; the input reads as it did. -/
def backoffGrowsUptoRow : OpenClaim := { program := "ytnlckacekbjofaa", sum := "7fbed2d543d462b842d7a00cebe951622970aa0dd957c0ff7270bf03cbdc5c20", func := "heron/heronlaw19.BackoffGrows", spec := "backoffGrows", apart := false, narrowed := true }
def BackoffGrowsUptoSaid : Prop := backoffGrowsUptoRow.holds Try.pinned (OpenSpec.upto backoffGrowsSpec)

/-- 'heronlaw19.BackoffSums', WHERE WHAT IT READS IS OF BULK AT MOST 1048576: true; the input reads as it did. -/
def backoffSumsUptoRow : OpenClaim := { program := "ytnlckacekbjofaa", sum := "7fbed2d543d462b842d7a00cebe951622970aa0dd957c0ff7270bf03cbdc5c20", func := "heron/heronlaw19.BackoffSums", spec := "backoffSums", apart := false, narrowed := true }
def BackoffSumsUptoSaid : Prop := backoffSumsUptoRow.holds Try.pinned (OpenSpec.upto backoffSumsSpec)

/-- 'heronlaw19.BackoffDue', WHERE WHAT IT READS IS OF BULK AT MOST 1048576: true; the input reads as it did. -/
def backoffDueUptoRow : OpenClaim := { program := "ytnlckacekbjofaa", sum := "7fbed2d543d462b842d7a00cebe951622970aa0dd957c0ff7270bf03cbdc5c20", func := "heron/heronlaw19.BackoffDue", spec := "backoffDue", apart := false, narrowed := true }
def BackoffDueUptoSaid : Prop := backoffDueUptoRow.holds Try.pinned (OpenSpec.upto backoffDueSpec)

/-- 'heronlaw19.BackoffExact', WHERE WHAT IT READS IS OF BULK AT MOST 1048576: true; the input reads as it did. -/
def backoffExactUptoRow : OpenClaim := { program := "ytnlckacekbjofaa", sum := "7fbed2d543d462b842d7a00cebe951622970aa0dd957c0ff7270bf03cbdc5c20", func := "heron/heronlaw19.BackoffExact", spec := "backoffExact", apart := false, narrowed := true }
def BackoffExactUptoSaid : Prop := backoffExactUptoRow.holds Try.pinned (OpenSpec.upto backoffExactSpec)

end Rows
end Go.Proofs.Ytnlckacekbjofaa
