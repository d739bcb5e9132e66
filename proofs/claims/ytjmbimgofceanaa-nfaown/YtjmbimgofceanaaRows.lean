/-
  NARROWER THAN 'FOR EVERY INPUT', by the rows' own cells (each row's printed sentence says how): NfaExact: loops.
  DERIVED. THE GIVEN ROWS OF THIS SEAT. 4 by the template 'for every input the law returns true; each argument reads behind the call as it read before'; 0 by the template 'total and deterministic' (their statements: YtjmbimgofceanaaTotals.lean).
  GIVEN WITH THE SEED: the statements are not yours to turn. If you find one false, say at which input.
  Laid BY PROGRAM, IN A SANDBOX (cutbox-rows.mjs): the forced cells as the released guide's own fill.sh prints them over the translation 73d12644cb1517d2… (all of the seat's roots in one cut). By AI agents, Wed Nov 11 2026. No macro, syntax, notation, axiom, sorry.
-/
import Derived.Test.YtjmbimgofceanaaChecked
import GoSem.Claim
import GoSem.ClaimJoined
import GoSem.ClaimMapViews
import Derived.JoinedTies
import Derived.KernelRfl
namespace Go.Proofs.Ytjmbimgofceanaa
/- THE CELL 'sum', in the pinned program and in every row, IS THE sha256 OF THE DUMP (.gsa) THAT YtjmbimgofceanaaProg.lean LOADS. Nothing in Lean hashes anything: it is a label: what it is worth is what the hold of that sum in a sandbox is worth. -/
noncomputable def Try.pinned : Pinned := { name := "ytjmbimgofceanaa", sum := "73d12644cb1517d28f14855e3f302b71bcc1baeef3ef8612683a326e5f9c96a4", checked := Try.checked }
namespace Rows
def none {H : Type} : Left H := { results := [], args := [] }

/-- 'heronlaw07.NfaMeets': WHATEVER THE INPUT: true; the input reads as it did. -/
def nfaMeetsSpec : ChangeSpec := { name := "nfaMeets", fn := fun _ => fun
  | [d1, d2, d3] => { results := [.lit (.bool true)], args := [d1, d2, d3] }
  | _ => none }
def nfaMeetsRow : OpenClaim := { program := "ytjmbimgofceanaa", sum := "73d12644cb1517d28f14855e3f302b71bcc1baeef3ef8612683a326e5f9c96a4", func := "heron/heronlaw07.NfaMeets", spec := "nfaMeets", inPlace := ["internal/bytealg.IndexByteString", "internal/bytealg.IndexString"], unfollowed := true, recurses := true, named := ["internal/bytealg.MaxLen"], apart := false }
def NfaMeetsSaid : Prop := nfaMeetsRow.holds Try.pinned (OpenSpec.ofChange nfaMeetsSpec)

/-- ITS FALSE NEIGHBOUR: 'it returns false'. Refute it at one input. -/
def nfaMeetsWrong : ChangeSpec := { name := "nfaMeets", fn := fun _ => fun
  | [d1, d2, d3] => { results := [.lit (.bool false)], args := [d1, d2, d3] }
  | _ => none }
def NfaMeetsWrongFalsely : Prop := nfaMeetsRow.holds Try.pinned (OpenSpec.ofChange nfaMeetsWrong)

/-- 'heronlaw07.NfaExact': WHATEVER THE INPUT: true; the input reads as it did. -/
def nfaExactSpec : ChangeSpec := { name := "nfaExact", fn := fun _ => fun
  | [d1, d2, d3] => { results := [.lit (.bool true)], args := [d1, d2, d3] }
  | _ => none }
def nfaExactRow : OpenClaim := { program := "ytjmbimgofceanaa", sum := "73d12644cb1517d28f14855e3f302b71bcc1baeef3ef8612683a326e5f9c96a4", func := "heron/heronlaw07.NfaExact", spec := "nfaExact", unfollowed := true, recurses := true, loops := true, apart := false }
def NfaExactSaid : Prop := nfaExactRow.holds Try.pinned (OpenSpec.ofChange nfaExactSpec)

/-- ITS FALSE NEIGHBOUR: 'it returns false'. Refute it at one input. -/
def nfaExactWrong : ChangeSpec := { name := "nfaExact", fn := fun _ => fun
  | [d1, d2, d3] => { results := [.lit (.bool false)], args := [d1, d2, d3] }
  | _ => none }
def NfaExactWrongFalsely : Prop := nfaExactRow.holds Try.pinned (OpenSpec.ofChange nfaExactWrong)

/-- 'heronlaw07.NfaUnited': WHATEVER THE INPUT: true; the input reads as it did. -/
def nfaUnitedSpec : ChangeSpec := { name := "nfaUnited", fn := fun _ => fun
  | [d1, d2] => { results := [.lit (.bool true)], args := [d1, d2] }
  | _ => none }
def nfaUnitedRow : OpenClaim := { program := "ytjmbimgofceanaa", sum := "73d12644cb1517d28f14855e3f302b71bcc1baeef3ef8612683a326e5f9c96a4", func := "heron/heronlaw07.NfaUnited", spec := "nfaUnited", inPlace := ["internal/bytealg.IndexByteString", "internal/bytealg.IndexString"], unfollowed := true, recurses := true, named := ["internal/bytealg.MaxLen"], apart := false }
def NfaUnitedSaid : Prop := nfaUnitedRow.holds Try.pinned (OpenSpec.ofChange nfaUnitedSpec)

/-- ITS FALSE NEIGHBOUR: 'it returns false'. Refute it at one input. -/
def nfaUnitedWrong : ChangeSpec := { name := "nfaUnited", fn := fun _ => fun
  | [d1, d2] => { results := [.lit (.bool false)], args := [d1, d2] }
  | _ => none }
def NfaUnitedWrongFalsely : Prop := nfaUnitedRow.holds Try.pinned (OpenSpec.ofChange nfaUnitedWrong)

/-- 'heronlaw07.NfaOwn': WHATEVER THE INPUT: true; the input reads as it did. -/
def nfaOwnSpec : ChangeSpec := { name := "nfaOwn", fn := fun _ => fun
  | [d1, d2] => { results := [.lit (.bool true)], args := [d1, d2] }
  | _ => none }
def nfaOwnRow : OpenClaim := { program := "ytjmbimgofceanaa", sum := "73d12644cb1517d28f14855e3f302b71bcc1baeef3ef8612683a326e5f9c96a4", func := "heron/heronlaw07.NfaOwn", spec := "nfaOwn", inPlace := ["internal/bytealg.IndexByteString", "internal/bytealg.IndexString"], unfollowed := true, recurses := true, named := ["internal/bytealg.MaxLen"], apart := false }
def NfaOwnSaid : Prop := nfaOwnRow.holds Try.pinned (OpenSpec.ofChange nfaOwnSpec)

/-- ITS FALSE NEIGHBOUR: 'it returns false'. Refute it at one input. -/
def nfaOwnWrong : ChangeSpec := { name := "nfaOwn", fn := fun _ => fun
  | [d1, d2] => { results := [.lit (.bool false)], args := [d1, d2] }
  | _ => none }
def NfaOwnWrongFalsely : Prop := nfaOwnRow.holds Try.pinned (OpenSpec.ofChange nfaOwnWrong)

/- THE SECOND FORM. 'bulk': how many values and letters a reading holds, each counted each time it is reached (what is shared counts as often as it is met; a slice's spare places count too). A statement '..UptoSaid' is the law's where the arguments, and the package variables that the reading takes, are together of bulk at most 1048576: NARROWER than '..Said'. Prove '..Said' where nothing that the law and all that it calls make is longer than what came in: it says more and counts as full. Else prove '..UptoSaid'. A law counts once. -/
mutual
def uptoBulk {H : Type} : DataW H → Nat
  | .lit (.string bytes) => bytes.length + 1
  | .lit _ => 1
  | .nil => 1
  | .ptr d => uptoBulk d + 1
  | .slice elems spare => uptoBulkAll elems + uptoBulkAll spare + 1
  | .agg parts => uptoBulkAll parts + 1
  | .iface _ d => uptoBulk d + 1
  | .map entries => uptoBulkEntries entries + 1
  | .held _ => 1
def uptoBulkAll {H : Type} : List (DataW H) → Nat
  | [] => 0
  | d :: r => uptoBulk d + uptoBulkAll r
def uptoBulkEntries {H : Type} : List (Lit × DataW H) → Nat
  | [] => 0
  | x :: r => uptoBulkEntry x + uptoBulkEntries r
def uptoBulkEntry {H : Type} : Lit × DataW H → Nat
  | (.string bytes, d) => bytes.length + uptoBulk d + 1
  | (_, d) => uptoBulk d + 1
 end
def uptoSmall : (H : Type) → List (DataW H) → Bool := fun _ ds => decide (uptoBulkAll ds ≤ 1048576)
def OpenSpec.upto (s : _root_.Go.ChangeSpec) : _root_.Go.OpenSpec := { _root_.Go.OpenSpec.ofChange s with cond := some uptoSmall }

/-- 'heronlaw07.NfaMeets', WHERE WHAT IT READS IS OF BULK AT MOST 1048576: true; the input reads as it did. -/
def nfaMeetsUptoRow : OpenClaim := { program := "ytjmbimgofceanaa", sum := "73d12644cb1517d28f14855e3f302b71bcc1baeef3ef8612683a326e5f9c96a4", func := "heron/heronlaw07.NfaMeets", spec := "nfaMeets", inPlace := ["internal/bytealg.IndexByteString", "internal/bytealg.IndexString"], unfollowed := true, recurses := true, named := ["internal/bytealg.MaxLen"], apart := false, narrowed := true }
def NfaMeetsUptoSaid : Prop := nfaMeetsUptoRow.holds Try.pinned (OpenSpec.upto nfaMeetsSpec)

/-- 'heronlaw07.NfaExact', WHERE WHAT IT READS IS OF BULK AT MOST 1048576: true; the input reads as it did. -/
def nfaExactUptoRow : OpenClaim := { program := "ytjmbimgofceanaa", sum := "73d12644cb1517d28f14855e3f302b71bcc1baeef3ef8612683a326e5f9c96a4", func := "heron/heronlaw07.NfaExact", spec := "nfaExact", unfollowed := true, recurses := true, loops := true, apart := false, narrowed := true }
def NfaExactUptoSaid : Prop := nfaExactUptoRow.holds Try.pinned (OpenSpec.upto nfaExactSpec)

/-- 'heronlaw07.NfaUnited', WHERE WHAT IT READS IS OF BULK AT MOST 1048576: true; the input reads as it did. -/
def nfaUnitedUptoRow : OpenClaim := { program := "ytjmbimgofceanaa", sum := "73d12644cb1517d28f14855e3f302b71bcc1baeef3ef8612683a326e5f9c96a4", func := "heron/heronlaw07.NfaUnited", spec := "nfaUnited", inPlace := ["internal/bytealg.IndexByteString", "internal/bytealg.IndexString"], unfollowed := true, recurses := true, named := ["internal/bytealg.MaxLen"], apart := false, narrowed := true }
def NfaUnitedUptoSaid : Prop := nfaUnitedUptoRow.holds Try.pinned (OpenSpec.upto nfaUnitedSpec)

/-- 'heronlaw07.NfaOwn', WHERE WHAT IT READS IS OF BULK AT MOST 1048576: true; the input reads as it did. -/
def nfaOwnUptoRow : OpenClaim := { program := "ytjmbimgofceanaa", sum := "73d12644cb1517d28f14855e3f302b71bcc1baeef3ef8612683a326e5f9c96a4", func := "heron/heronlaw07.NfaOwn", spec := "nfaOwn", inPlace := ["internal/bytealg.IndexByteString", "internal/bytealg.IndexString"], unfollowed := true, recurses := true, named := ["internal/bytealg.MaxLen"], apart := false, narrowed := true }
def NfaOwnUptoSaid : Prop := nfaOwnUptoRow.holds Try.pinned (OpenSpec.upto nfaOwnSpec)

end Rows
end Go.Proofs.Ytjmbimgofceanaa
