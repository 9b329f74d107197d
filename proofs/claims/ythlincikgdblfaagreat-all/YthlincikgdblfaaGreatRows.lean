/-
  No cell of these rows narrows 'for every input' (looked for: loops, veiled, ifaces, maps, wideKeys, modest, calm, conditions, laid).
  DERIVED. THE GIVEN ROWS OF THIS SEAT. 8 by the template 'for every input the law returns true; each argument reads behind the call as it read before'; 0 by the template 'total and deterministic' (their statements: YthlincikgdblfaaGreatTotals.lean).
  GIVEN WITH THE SEED: the statements are not yours to turn. If you find one false, say at which input.
  Laid BY PROGRAM, IN A SANDBOX (cutbox-rows.mjs): the forced cells as the released guide's own fill.sh prints them over the translation 524ec428bf537227… (all of the seat's roots in one cut). By AI agents, Wed Nov 11 2026. No macro, syntax, notation, axiom, sorry.
-/
import Derived.Test.YthlincikgdblfaaGreatChecked
import GoSem.Claim
import GoSem.ClaimJoined
import GoSem.ClaimMapViews
import Derived.JoinedTies
import Derived.KernelRfl
namespace Go.Proofs.YthlincikgdblfaaGreat
/- THE CELL 'sum', in the pinned program and in every row, IS THE sha256 OF THE DUMP (.gsa) THAT YthlincikgdblfaaGreatProg.lean LOADS. Nothing in Lean hashes anything: it is a label: what it is worth is what the hold of that sum in a sandbox is worth. -/
noncomputable def Tryz.pinned : Pinned := { name := "ythlincikgdblfaagreat", sum := "524ec428bf537227e77378db9d0ce1c1abad1a83c4f182907577e167a34da2d0", checked := Tryz.checked }
namespace Rows
def none {H : Type} : Left H := { results := [], args := [] }

/-- 'rotorlaw.Builds': WHATEVER THE INPUT: true; the input reads as it did. -/
def buildsSpec : ChangeSpec := { name := "builds", fn := fun _ => fun
  | [d] => { results := [.lit (.bool true)], args := [d] }
  | _ => none }
def buildsRow : OpenClaim := { program := "ythlincikgdblfaagreat", sum := "524ec428bf537227e77378db9d0ce1c1abad1a83c4f182907577e167a34da2d0", func := "rotor/rotorlaw.Builds", spec := "builds", inPlace := ["internal/bytealg.abigen_runtime_cmpstring"], unfollowed := true, recurses := true, apart := false }
def BuildsSaid : Prop := buildsRow.holds Tryz.pinned (OpenSpec.ofChange buildsSpec)

/-- ITS FALSE NEIGHBOUR: 'it returns false'. Refute it at one input. -/
def buildsWrong : ChangeSpec := { name := "builds", fn := fun _ => fun
  | [d] => { results := [.lit (.bool false)], args := [d] }
  | _ => none }
def BuildsWrongFalsely : Prop := buildsRow.holds Tryz.pinned (OpenSpec.ofChange buildsWrong)

/-- 'rotorlaw.Loads': WHATEVER THE INPUT: true; the input reads as it did. -/
def loadsSpec : ChangeSpec := { name := "loads", fn := fun _ => fun
  | [d] => { results := [.lit (.bool true)], args := [d] }
  | _ => none }
def loadsRow : OpenClaim := { program := "ythlincikgdblfaagreat", sum := "524ec428bf537227e77378db9d0ce1c1abad1a83c4f182907577e167a34da2d0", func := "rotor/rotorlaw.Loads", spec := "loads", inPlace := ["internal/bytealg.abigen_runtime_cmpstring"], unfollowed := true, recurses := true, apart := false }
def LoadsSaid : Prop := loadsRow.holds Tryz.pinned (OpenSpec.ofChange loadsSpec)

/-- ITS FALSE NEIGHBOUR: 'it returns false'. Refute it at one input. -/
def loadsWrong : ChangeSpec := { name := "loads", fn := fun _ => fun
  | [d] => { results := [.lit (.bool false)], args := [d] }
  | _ => none }
def LoadsWrongFalsely : Prop := loadsRow.holds Tryz.pinned (OpenSpec.ofChange loadsWrong)

/-- 'rotorkeep.Taken': WHATEVER THE INPUT: true; the input reads as it did. -/
def takenSpec : ChangeSpec := { name := "taken", fn := fun _ => fun
  | [d1, d2, d3, d4, d5] => { results := [.lit (.bool true)], args := [d1, d2, d3, d4, d5] }
  | _ => none }
def takenRow : OpenClaim := { program := "ythlincikgdblfaagreat", sum := "524ec428bf537227e77378db9d0ce1c1abad1a83c4f182907577e167a34da2d0", func := "rotor/rotorkeep.Taken", spec := "taken", inPlace := ["internal/bytealg.abigen_runtime_cmpstring"], unfollowed := true, recurses := true, apart := false }
def TakenSaid : Prop := takenRow.holds Tryz.pinned (OpenSpec.ofChange takenSpec)

/-- ITS FALSE NEIGHBOUR: 'it returns false'. Refute it at one input. -/
def takenWrong : ChangeSpec := { name := "taken", fn := fun _ => fun
  | [d1, d2, d3, d4, d5] => { results := [.lit (.bool false)], args := [d1, d2, d3, d4, d5] }
  | _ => none }
def TakenWrongFalsely : Prop := takenRow.holds Tryz.pinned (OpenSpec.ofChange takenWrong)

/-- 'rotorkeep.Only': WHATEVER THE INPUT: true; the input reads as it did. -/
def onlySpec : ChangeSpec := { name := "only", fn := fun _ => fun
  | [d1, d2, d3, d4] => { results := [.lit (.bool true)], args := [d1, d2, d3, d4] }
  | _ => none }
def onlyRow : OpenClaim := { program := "ythlincikgdblfaagreat", sum := "524ec428bf537227e77378db9d0ce1c1abad1a83c4f182907577e167a34da2d0", func := "rotor/rotorkeep.Only", spec := "only", inPlace := ["internal/bytealg.abigen_runtime_cmpstring"], unfollowed := true, recurses := true, apart := false }
def OnlySaid : Prop := onlyRow.holds Tryz.pinned (OpenSpec.ofChange onlySpec)

/-- ITS FALSE NEIGHBOUR: 'it returns false'. Refute it at one input. -/
def onlyWrong : ChangeSpec := { name := "only", fn := fun _ => fun
  | [d1, d2, d3, d4] => { results := [.lit (.bool false)], args := [d1, d2, d3, d4] }
  | _ => none }
def OnlyWrongFalsely : Prop := onlyRow.holds Tryz.pinned (OpenSpec.ofChange onlyWrong)

/-- 'rotorkeep.Spoilt': WHATEVER THE INPUT: true; the input reads as it did. -/
def spoiltSpec : ChangeSpec := { name := "spoilt", fn := fun _ => fun
  | [d1, d2, d3, d4, d5] => { results := [.lit (.bool true)], args := [d1, d2, d3, d4, d5] }
  | _ => none }
def spoiltRow : OpenClaim := { program := "ythlincikgdblfaagreat", sum := "524ec428bf537227e77378db9d0ce1c1abad1a83c4f182907577e167a34da2d0", func := "rotor/rotorkeep.Spoilt", spec := "spoilt", inPlace := ["internal/bytealg.abigen_runtime_cmpstring"], unfollowed := true, recurses := true, apart := false }
def SpoiltSaid : Prop := spoiltRow.holds Tryz.pinned (OpenSpec.ofChange spoiltSpec)

/-- ITS FALSE NEIGHBOUR: 'it returns false'. Refute it at one input. -/
def spoiltWrong : ChangeSpec := { name := "spoilt", fn := fun _ => fun
  | [d1, d2, d3, d4, d5] => { results := [.lit (.bool false)], args := [d1, d2, d3, d4, d5] }
  | _ => none }
def SpoiltWrongFalsely : Prop := spoiltRow.holds Tryz.pinned (OpenSpec.ofChange spoiltWrong)

/-- 'rotorkeep.Failed': WHATEVER THE INPUT: true; the input reads as it did. -/
def failedSpec : ChangeSpec := { name := "failed", fn := fun _ => fun
  | [d1, d2, d3, d4, d5] => { results := [.lit (.bool true)], args := [d1, d2, d3, d4, d5] }
  | _ => none }
def failedRow : OpenClaim := { program := "ythlincikgdblfaagreat", sum := "524ec428bf537227e77378db9d0ce1c1abad1a83c4f182907577e167a34da2d0", func := "rotor/rotorkeep.Failed", spec := "failed", inPlace := ["internal/bytealg.abigen_runtime_cmpstring"], unfollowed := true, recurses := true, apart := false }
def FailedSaid : Prop := failedRow.holds Tryz.pinned (OpenSpec.ofChange failedSpec)

/-- ITS FALSE NEIGHBOUR: 'it returns false'. Refute it at one input. -/
def failedWrong : ChangeSpec := { name := "failed", fn := fun _ => fun
  | [d1, d2, d3, d4, d5] => { results := [.lit (.bool false)], args := [d1, d2, d3, d4, d5] }
  | _ => none }
def FailedWrongFalsely : Prop := failedRow.holds Tryz.pinned (OpenSpec.ofChange failedWrong)

/-- 'rotorkeep.Found': WHATEVER THE INPUT: true; the input reads as it did. -/
def foundSpec : ChangeSpec := { name := "found", fn := fun _ => fun
  | [d1, d2, d3, d4, d5, d6] => { results := [.lit (.bool true)], args := [d1, d2, d3, d4, d5, d6] }
  | _ => none }
def foundRow : OpenClaim := { program := "ythlincikgdblfaagreat", sum := "524ec428bf537227e77378db9d0ce1c1abad1a83c4f182907577e167a34da2d0", func := "rotor/rotorkeep.Found", spec := "found", inPlace := ["internal/bytealg.abigen_runtime_cmpstring"], unfollowed := true, recurses := true, apart := false }
def FoundSaid : Prop := foundRow.holds Tryz.pinned (OpenSpec.ofChange foundSpec)

/-- ITS FALSE NEIGHBOUR: 'it returns false'. Refute it at one input. -/
def foundWrong : ChangeSpec := { name := "found", fn := fun _ => fun
  | [d1, d2, d3, d4, d5, d6] => { results := [.lit (.bool false)], args := [d1, d2, d3, d4, d5, d6] }
  | _ => none }
def FoundWrongFalsely : Prop := foundRow.holds Tryz.pinned (OpenSpec.ofChange foundWrong)

/-- 'rotorlaw.All': WHATEVER THE INPUT: true; the input reads as it did. -/
def allSpec : ChangeSpec := { name := "all", fn := fun _ => fun
  | [d] => { results := [.lit (.bool true)], args := [d] }
  | _ => none }
def allRow : OpenClaim := { program := "ythlincikgdblfaagreat", sum := "524ec428bf537227e77378db9d0ce1c1abad1a83c4f182907577e167a34da2d0", func := "rotor/rotorlaw.All", spec := "all", inPlace := ["internal/bytealg.abigen_runtime_cmpstring"], unfollowed := true, recurses := true, apart := false }
def AllSaid : Prop := allRow.holds Tryz.pinned (OpenSpec.ofChange allSpec)

/-- ITS FALSE NEIGHBOUR: 'it returns false'. Refute it at one input. -/
def allWrong : ChangeSpec := { name := "all", fn := fun _ => fun
  | [d] => { results := [.lit (.bool false)], args := [d] }
  | _ => none }
def AllWrongFalsely : Prop := allRow.holds Tryz.pinned (OpenSpec.ofChange allWrong)

/- THE SECOND FORM. 'bulk': how many values and letters a reading holds, each counted each time it is reached (what is shared counts as often as it is met; a slice's spare places count too). A statement '..UptoSaid' is the law's where the arguments, and the package variables that the reading takes, are together of bulk at most 1048576: NARROWER than '..Said'. Prove '..Said' where nothing that the law and all that it calls make is longer than what came in: it says more and counts as full. Else prove '..UptoSaid'. A law counts once. -/
mutual
def uptoBulk {H : Type} : DataW H → Nat
  | .lit (.string bytes) => bytes.length + 1
  | .lit _ => 1
  | .nil => 1
  | .ptr d => uptoBulk d + 1
  | .slice elems spare => uptoBulkAll elems + uptoBulkAll spare + 1
  | .agg parts => uptoBulkAll parts + 1
  | .iface _ d => uptoBulk d + 1
  | .map entries => uptoBulkEntries entries + 1
  | .held _ => 1
def uptoBulkAll {H : Type} : List (DataW H) → Nat
  | [] => 0
  | d :: r => uptoBulk d + uptoBulkAll r
def uptoBulkEntries {H : Type} : List (Lit × DataW H) → Nat
  | [] => 0
  | x :: r => uptoBulkEntry x + uptoBulkEntries r
def uptoBulkEntry {H : Type} : Lit × DataW H → Nat
  | (.string bytes, d) => bytes.length + uptoBulk d + 1
  | (_, d) => uptoBulk d + 1
 end
def uptoSmall : (H : Type) → List (DataW H) → Bool := fun _ ds => decide (uptoBulkAll ds ≤ 1048576)
def OpenSpec.upto (s : _root_.Go.ChangeSpec) : _root_.Go.OpenSpec := { _root_.Go.OpenSpec.ofChange s with cond := some uptoSmall }

/-- 'rotorlaw.Builds', WHERE WHAT IT READS IS OF BULK AT MOST 1048576: true; the input reads as it did. -/
def buildsUptoRow : OpenClaim := { program := "ythlincikgdblfaagreat", sum := "524ec428bf537227e77378db9d0ce1c1abad1a83c4f182907577e167a34da2d0", func := "rotor/rotorlaw.Builds", spec := "builds", inPlace := ["internal/bytealg.abigen_runtime_cmpstring"], unfollowed := true, recurses := true, apart := false, narrowed := true }
def BuildsUptoSaid : Prop := buildsUptoRow.holds Tryz.pinned (OpenSpec.upto buildsSpec)

/-- 'rotorlaw.Loads', WHERE WHAT IT READS IS OF BULK AT MOST 1048576: true; the input reads as it did. -/
def loadsUptoRow : OpenClaim := { program := "ythlincikgdblfaagreat", sum := "524ec428bf537227e77378db9d0ce1c1abad1a83c4f182907577e167a34da2d0", func := "rotor/rotorlaw.Loads", spec := "loads", inPlace := ["internal/bytealg.abigen_runtime_cmpstring"], unfollowed := true, recurses := true, apart := false, narrowed := true }
def LoadsUptoSaid : Prop := loadsUptoRow.holds Tryz.pinned (OpenSpec.upto loadsSpec)

/-- 'rotorkeep.Taken', WHERE WHAT IT READS IS OF BULK AT MOST 1048576: true; the input reads as it did. -/
def takenUptoRow : OpenClaim := { program := "ythlincikgdblfaagreat", sum := "524ec428bf537227e77378db9d0ce1c1abad1a83c4f182907577e167a34da2d0", func := "rotor/rotorkeep.Taken", spec := "taken", inPlace := ["internal/bytealg.abigen_runtime_cmpstring"], unfollowed := true, recurses := true, apart := false, narrowed := true }
def TakenUptoSaid : Prop := takenUptoRow.holds Tryz.pinned (OpenSpec.upto takenSpec)

/-- 'rotorkeep.Only', WHERE WHAT IT READS IS OF BULK AT MOST 1048576: true; the input reads as it did. -/
def onlyUptoRow : OpenClaim := { program := "ythlincikgdblfaagreat", sum := "524ec428bf537227e77378db9d0ce1c1abad1a83c4f182907577e167a34da2d0", func := "rotor/rotorkeep.Only", spec := "only", inPlace := ["internal/bytealg.abigen_runtime_cmpstring"], unfollowed := true, recurses := true, apart := false, narrowed := true }
def OnlyUptoSaid : Prop := onlyUptoRow.holds Tryz.pinned (OpenSpec.upto onlySpec)

/-- 'rotorkeep.Spoilt', WHERE WHAT IT READS IS OF BULK AT MOST 1048576: true; the input reads as it did. -/
def spoiltUptoRow : OpenClaim := { program := "ythlincikgdblfaagreat", sum := "524ec428bf537227e77378db9d0ce1c1abad1a83c4f182907577e167a34da2d0", func := "rotor/rotorkeep.Spoilt", spec := "spoilt", inPlace := ["internal/bytealg.abigen_runtime_cmpstring"], unfollowed := true, recurses := true, apart := false, narrowed := true }
def SpoiltUptoSaid : Prop := spoiltUptoRow.holds Tryz.pinned (OpenSpec.upto spoiltSpec)

/-- 'rotorkeep.Failed', WHERE WHAT IT READS IS OF BULK AT MOST 1048576: true; the input reads as it did. -/
def failedUptoRow : OpenClaim := { program := "ythlincikgdblfaagreat", sum := "524ec428bf537227e77378db9d0ce1c1abad1a83c4f182907577e167a34da2d0", func := "rotor/rotorkeep.Failed", spec := "failed", inPlace := ["internal/bytealg.abigen_runtime_cmpstring"], unfollowed := true, recurses := true, apart := false, narrowed := true }
def FailedUptoSaid : Prop := failedUptoRow.holds Tryz.pinned (OpenSpec.upto failedSpec)

/-- 'rotorkeep.Found', WHERE WHAT IT READS IS OF BULK AT MOST 1048576: true; the input reads as it did. -/
def foundUptoRow : OpenClaim := { program := "ythlincikgdblfaagreat", sum := "524ec428bf537227e77378db9d0ce1c1abad1a83c4f182907577e167a34da2d0", func := "rotor/rotorkeep.Found", spec := "found", inPlace := ["internal/bytealg.abigen_runtime_cmpstring"], unfollowed := true, recurses := true, apart := false, narrowed := true }
def FoundUptoSaid : Prop := foundUptoRow.holds Tryz.pinned (OpenSpec.upto foundSpec)

/-- 'rotorlaw.All', WHERE WHAT IT READS IS OF BULK AT MOST 1048576: true; the input reads as it did. -/
def allUptoRow : OpenClaim := { program := "ythlincikgdblfaagreat", sum := "524ec428bf537227e77378db9d0ce1c1abad1a83c4f182907577e167a34da2d0", func := "rotor/rotorlaw.All", spec := "all", inPlace := ["internal/bytealg.abigen_runtime_cmpstring"], unfollowed := true, recurses := true, apart := false, narrowed := true }
def AllUptoSaid : Prop := allUptoRow.holds Tryz.pinned (OpenSpec.upto allSpec)

end Rows
end Go.Proofs.YthlincikgdblfaaGreat
