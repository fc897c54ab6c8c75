/-
  No cell of these rows narrows 'for every input' (looked for: loops, veiled, ifaces, maps, wideKeys, modest, calm, conditions, laid).
  DERIVED. THE GIVEN ROWS OF THIS SEAT. 7 by the template 'for every input the law returns true; each argument reads behind the call as it read before'; 0 by the template 'total and deterministic' (their statements: YtlafkpaljibonaaTotals.lean).
  GIVEN WITH THE SEED: the statements are not yours to turn. If you find one false, say at which input.
  Laid BY PROGRAM, IN A SANDBOX (cutbox-rows.mjs): the forced cells as the released guide's own fill.sh prints them over the translation 58bd4e11eb11ce46… (all of the seat's roots in one cut). By AI agents, Wed Nov 11 2026. No macro, syntax, notation, axiom, sorry.
-/
import Derived.Test.YtlafkpaljibonaaChecked
import GoSem.Claim
import GoSem.ClaimJoined
import GoSem.ClaimMapViews
import Derived.JoinedTies
import Derived.KernelRfl
namespace Go.Proofs.Ytlafkpaljibonaa
/- THE CELL 'sum', in the pinned program and in every row, IS THE sha256 OF THE DUMP (.gsa) THAT YtlafkpaljibonaaProg.lean LOADS. Nothing in Lean hashes anything: it is a label: what it is worth is what the hold of that sum in a sandbox is worth. -/
noncomputable def Try.pinned : Pinned := { name := "ytlafkpaljibonaa", sum := "58bd4e11eb11ce469395632f569dc1f24c404f11d323d75f912a7b6c478b0ce2", checked := Try.checked }
namespace Rows
def none {H : Type} : Left H := { results := [], args := [] }

/-- 'foremanlaw.Codes': WHATEVER THE INPUT: true; the input reads as it did. -/
def codesSpec : ChangeSpec := { name := "codes", fn := fun _ => fun
  | [d1, d2] => { results := [.lit (.bool true)], args := [d1, d2] }
  | _ => none }
def codesRow : OpenClaim := { program := "ytlafkpaljibonaa", sum := "58bd4e11eb11ce469395632f569dc1f24c404f11d323d75f912a7b6c478b0ce2", func := "foreman/foremanlaw.Codes", spec := "codes", apart := false }
def CodesSaid : Prop := codesRow.holds Try.pinned (OpenSpec.ofChange codesSpec)

/-- ITS FALSE NEIGHBOUR: 'it returns false'. Refute it at one input. -/
def codesWrong : ChangeSpec := { name := "codes", fn := fun _ => fun
  | [d1, d2] => { results := [.lit (.bool false)], args := [d1, d2] }
  | _ => none }
def CodesWrongFalsely : Prop := codesRow.holds Try.pinned (OpenSpec.ofChange codesWrong)

/-- 'foremankeep.Back': WHATEVER THE INPUT: true; the input reads as it did. -/
def backSpec : ChangeSpec := { name := "back", fn := fun _ => fun
  | [d1, d2, d3, d4] => { results := [.lit (.bool true)], args := [d1, d2, d3, d4] }
  | _ => none }
def backRow : OpenClaim := { program := "ytlafkpaljibonaa", sum := "58bd4e11eb11ce469395632f569dc1f24c404f11d323d75f912a7b6c478b0ce2", func := "foreman/foremankeep.Back", spec := "back", apart := false }
def BackSaid : Prop := backRow.holds Try.pinned (OpenSpec.ofChange backSpec)

/-- ITS FALSE NEIGHBOUR: 'it returns false'. Refute it at one input. -/
def backWrong : ChangeSpec := { name := "back", fn := fun _ => fun
  | [d1, d2, d3, d4] => { results := [.lit (.bool false)], args := [d1, d2, d3, d4] }
  | _ => none }
def BackWrongFalsely : Prop := backRow.holds Try.pinned (OpenSpec.ofChange backWrong)

/-- 'foremankeep.Chunks': WHATEVER THE INPUT: true; the input reads as it did. -/
def chunksSpec : ChangeSpec := { name := "chunks", fn := fun _ => fun
  | [d1, d2, d3, d4, d5, d6] => { results := [.lit (.bool true)], args := [d1, d2, d3, d4, d5, d6] }
  | _ => none }
def chunksRow : OpenClaim := { program := "ytlafkpaljibonaa", sum := "58bd4e11eb11ce469395632f569dc1f24c404f11d323d75f912a7b6c478b0ce2", func := "foreman/foremankeep.Chunks", spec := "chunks", apart := false }
def ChunksSaid : Prop := chunksRow.holds Try.pinned (OpenSpec.ofChange chunksSpec)

/-- ITS FALSE NEIGHBOUR: 'it returns false'. Refute it at one input. -/
def chunksWrong : ChangeSpec := { name := "chunks", fn := fun _ => fun
  | [d1, d2, d3, d4, d5, d6] => { results := [.lit (.bool false)], args := [d1, d2, d3, d4, d5, d6] }
  | _ => none }
def ChunksWrongFalsely : Prop := chunksRow.holds Try.pinned (OpenSpec.ofChange chunksWrong)

/-- 'foremankeep.Whole': WHATEVER THE INPUT: true; the input reads as it did. -/
def wholeSpec : ChangeSpec := { name := "whole", fn := fun _ => fun
  | [d1, d2, d3, d4] => { results := [.lit (.bool true)], args := [d1, d2, d3, d4] }
  | _ => none }
def wholeRow : OpenClaim := { program := "ytlafkpaljibonaa", sum := "58bd4e11eb11ce469395632f569dc1f24c404f11d323d75f912a7b6c478b0ce2", func := "foreman/foremankeep.Whole", spec := "whole", apart := false }
def WholeSaid : Prop := wholeRow.holds Try.pinned (OpenSpec.ofChange wholeSpec)

/-- ITS FALSE NEIGHBOUR: 'it returns false'. Refute it at one input. -/
def wholeWrong : ChangeSpec := { name := "whole", fn := fun _ => fun
  | [d1, d2, d3, d4] => { results := [.lit (.bool false)], args := [d1, d2, d3, d4] }
  | _ => none }
def WholeWrongFalsely : Prop := wholeRow.holds Try.pinned (OpenSpec.ofChange wholeWrong)

/-- 'foremankeep.Late': WHATEVER THE INPUT: true; the input reads as it did. -/
def lateSpec : ChangeSpec := { name := "late", fn := fun _ => fun
  | [d1, d2, d3] => { results := [.lit (.bool true)], args := [d1, d2, d3] }
  | _ => none }
def lateRow : OpenClaim := { program := "ytlafkpaljibonaa", sum := "58bd4e11eb11ce469395632f569dc1f24c404f11d323d75f912a7b6c478b0ce2", func := "foreman/foremankeep.Late", spec := "late", apart := false }
def LateSaid : Prop := lateRow.holds Try.pinned (OpenSpec.ofChange lateSpec)

/-- ITS FALSE NEIGHBOUR: 'it returns false'. Refute it at one input. -/
def lateWrong : ChangeSpec := { name := "late", fn := fun _ => fun
  | [d1, d2, d3] => { results := [.lit (.bool false)], args := [d1, d2, d3] }
  | _ => none }
def LateWrongFalsely : Prop := lateRow.holds Try.pinned (OpenSpec.ofChange lateWrong)

/-- 'foremankeep.Bounds': WHATEVER THE INPUT: true; the input reads as it did. -/
def boundsSpec : ChangeSpec := { name := "bounds", fn := fun _ => fun
  | [d1, d2] => { results := [.lit (.bool true)], args := [d1, d2] }
  | _ => none }
def boundsRow : OpenClaim := { program := "ytlafkpaljibonaa", sum := "58bd4e11eb11ce469395632f569dc1f24c404f11d323d75f912a7b6c478b0ce2", func := "foreman/foremankeep.Bounds", spec := "bounds", apart := false }
def BoundsSaid : Prop := boundsRow.holds Try.pinned (OpenSpec.ofChange boundsSpec)

/-- ITS FALSE NEIGHBOUR: 'it returns false'. Refute it at one input. -/
def boundsWrong : ChangeSpec := { name := "bounds", fn := fun _ => fun
  | [d1, d2] => { results := [.lit (.bool false)], args := [d1, d2] }
  | _ => none }
def BoundsWrongFalsely : Prop := boundsRow.holds Try.pinned (OpenSpec.ofChange boundsWrong)

/-- 'foremankeep.Drained': WHATEVER THE INPUT: true; the input reads as it did. -/
def drainedSpec : ChangeSpec := { name := "drained", fn := fun _ => fun
  | [d1, d2] => { results := [.lit (.bool true)], args := [d1, d2] }
  | _ => none }
def drainedRow : OpenClaim := { program := "ytlafkpaljibonaa", sum := "58bd4e11eb11ce469395632f569dc1f24c404f11d323d75f912a7b6c478b0ce2", func := "foreman/foremankeep.Drained", spec := "drained", apart := false }
def DrainedSaid : Prop := drainedRow.holds Try.pinned (OpenSpec.ofChange drainedSpec)

/-- ITS FALSE NEIGHBOUR: 'it returns false'. Refute it at one input. -/
def drainedWrong : ChangeSpec := { name := "drained", fn := fun _ => fun
  | [d1, d2] => { results := [.lit (.bool false)], args := [d1, d2] }
  | _ => none }
def DrainedWrongFalsely : Prop := drainedRow.holds Try.pinned (OpenSpec.ofChange drainedWrong)

/- THE SECOND FORM. 'bulk': how many values and letters a reading holds, each counted each time it is reached (what is shared counts as often as it is met; a slice's spare places count too). A statement '..UptoSaid' is the law's where the arguments, and the package variables that the reading takes, are together of bulk at most 1048576: NARROWER than '..Said'. Prove '..Said' where nothing that the law and all that it calls make is longer than what came in: it says more and counts as full. Else prove '..UptoSaid'. A law counts once. -/
mutual
def uptoBulk {H : Type} : DataW H → Nat
  | .lit (.string bytes) => bytes.length + 1
  | .lit _ => 1
  | .nil => 1
  | .ptr d => uptoBulk d + 1
  | .slice elems spare => uptoBulkAll elems + uptoBulkAll spare + 1
  | .agg parts => uptoBulkAll parts + 1
  | .iface _ d => uptoBulk d + 1
  | .map entries => uptoBulkEntries entries + 1
  | .held _ => 1
def uptoBulkAll {H : Type} : List (DataW H) → Nat
  | [] => 0
  | d :: r => uptoBulk d + uptoBulkAll r
def uptoBulkEntries {H : Type} : List (Lit × DataW H) → Nat
  | [] => 0
  | x :: r => uptoBulkEntry x + uptoBulkEntries r
def uptoBulkEntry {H : Type} : Lit × DataW H → Nat
  | (.string bytes, d) => bytes.length + uptoBulk d + 1
  | (_, d) => uptoBulk d + 1
 end
def uptoSmall : (H : Type) → List (DataW H) → Bool := fun _ ds => decide (uptoBulkAll ds ≤ 1048576)
def OpenSpec.upto (s : _root_.Go.ChangeSpec) : _root_.Go.OpenSpec := { _root_.Go.OpenSpec.ofChange s with cond := some uptoSmall }

/-- 'foremanlaw.Codes', WHERE WHAT IT READS IS OF BULK AT MOST 1048576: true; the input reads as it did. -/
def codesUptoRow : OpenClaim := { program := "ytlafkpaljibonaa", sum := "58bd4e11eb11ce469395632f569dc1f24c404f11d323d75f912a7b6c478b0ce2", func := "foreman/foremanlaw.Codes", spec := "codes", apart := false, narrowed := true }
def CodesUptoSaid : Prop := codesUptoRow.holds Try.pinned (OpenSpec.upto codesSpec)

/-- 'foremankeep.Back', WHERE WHAT IT READS IS OF BULK AT MOST 1048576: true; the input reads as it did. -/
def backUptoRow : OpenClaim := { program := "ytlafkpaljibonaa", sum := "58bd4e11eb11ce469395632f569dc1f24c404f11d323d75f912a7b6c478b0ce2", func := "foreman/foremankeep.Back", spec := "back", apart := false, narrowed := true }
def BackUptoSaid : Prop := backUptoRow.holds Try.pinned (OpenSpec.upto backSpec)

/-- 'foremankeep.Chunks', WHERE WHAT IT READS IS OF BULK AT MOST 1048576: true; the input reads as it did. -/
def chunksUptoRow : OpenClaim := { program := "ytlafkpaljibonaa", sum := "58bd4e11eb11ce469395632f569dc1f24c404f11d323d75f912a7b6c478b0ce2", func := "foreman/foremankeep.Chunks", spec := "chunks", apart := false, narrowed := true }
def ChunksUptoSaid : Prop := chunksUptoRow.holds Try.pinned (OpenSpec.upto chunksSpec)

/-- 'foremankeep.Whole', WHERE WHAT IT READS IS OF BULK AT MOST 1048576: true; the input reads as it did. -/
def wholeUptoRow : OpenClaim := { program := "ytlafkpaljibonaa", sum := "58bd4e11eb11ce469395632f569dc1f24c404f11d323d75f912a7b6c478b0ce2", func := "foreman/foremankeep.Whole", spec := "whole", apart := false, narrowed := true }
def WholeUptoSaid : Prop := wholeUptoRow.holds Try.pinned (OpenSpec.upto wholeSpec)

/-- 'foremankeep.Late', WHERE WHAT IT READS IS OF BULK AT MOST 1048576: true; the input reads as it did. -/
def lateUptoRow : OpenClaim := { program := "ytlafkpaljibonaa", sum := "58bd4e11eb11ce469395632f569dc1f24c404f11d323d75f912a7b6c478b0ce2", func := "foreman/foremankeep.Late", spec := "late", apart := false, narrowed := true }
def LateUptoSaid : Prop := lateUptoRow.holds Try.pinned (OpenSpec.upto lateSpec)

/-- 'foremankeep.Bounds', WHERE WHAT IT READS IS OF BULK AT MOST 1048576: true; the input reads as it did. -/
def boundsUptoRow : OpenClaim := { program := "ytlafkpaljibonaa", sum := "58bd4e11eb11ce469395632f569dc1f24c404f11d323d75f912a7b6c478b0ce2", func := "foreman/foremankeep.Bounds", spec := "bounds", apart := false, narrowed := true }
def BoundsUptoSaid : Prop := boundsUptoRow.holds Try.pinned (OpenSpec.upto boundsSpec)

/-- 'foremankeep.Drained', WHERE WHAT IT READS IS OF BULK AT MOST 1048576: true; the input reads as it did. -/
def drainedUptoRow : OpenClaim := { program := "ytlafkpaljibonaa", sum := "58bd4e11eb11ce469395632f569dc1f24c404f11d323d75f912a7b6c478b0ce2", func := "foreman/foremankeep.Drained", spec := "drained", apart := false, narrowed := true }
def DrainedUptoSaid : Prop := drainedUptoRow.holds Try.pinned (OpenSpec.upto drainedSpec)

end Rows
end Go.Proofs.Ytlafkpaljibonaa
