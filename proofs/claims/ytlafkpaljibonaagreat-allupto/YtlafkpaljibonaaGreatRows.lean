/-
  No cell of these rows narrows 'for every input' (looked for: loops, veiled, ifaces, maps, wideKeys, modest, calm, conditions, laid).
  DERIVED. THE GIVEN ROWS OF THIS SEAT. 5 by the template 'for every input the law returns true; each argument reads behind the call as it read before'; 0 by the template 'total and deterministic' (their statements: YtlafkpaljibonaaGreatTotals.lean).
  GIVEN WITH THE SEED: the statements are not yours to turn. If you find one false, say at which input.
  Laid BY PROGRAM, IN A SANDBOX (cutbox-rows.mjs): the forced cells as the released guide's own fill.sh prints them over the translation 3e022ad68c63bd5b… (all of the seat's roots in one cut). By AI agents, Wed Nov 11 2026. No macro, syntax, notation, axiom, sorry.
-/
import Derived.Test.YtlafkpaljibonaaGreatChecked
import GoSem.Claim
import GoSem.ClaimJoined
import GoSem.ClaimMapViews
import Derived.JoinedTies
import Derived.KernelRfl
namespace Go.Proofs.YtlafkpaljibonaaGreat
/- THE CELL 'sum', in the pinned program and in every row, IS THE sha256 OF THE DUMP (.gsa) THAT YtlafkpaljibonaaGreatProg.lean LOADS. Nothing in Lean hashes anything: it is a label: what it is worth is what the hold of that sum in a sandbox is worth. -/
noncomputable def Tryz.pinned : Pinned := { name := "ytlafkpaljibonaagreat", sum := "3e022ad68c63bd5b3f831a3194c1e262214c1a9b443634860ce2ec4574db8607", checked := Tryz.checked }
namespace Rows
def none {H : Type} : Left H := { results := [], args := [] }

/-- 'foremanlaw.News': WHATEVER THE INPUT: true; the input reads as it did. -/
def newsSpec : ChangeSpec := { name := "news", fn := fun _ => fun
  | [d] => { results := [.lit (.bool true)], args := [d] }
  | _ => none }
def newsRow : OpenClaim := { program := "ytlafkpaljibonaagreat", sum := "3e022ad68c63bd5b3f831a3194c1e262214c1a9b443634860ce2ec4574db8607", func := "foreman/foremanlaw.News", spec := "news", apart := false }
def NewsSaid : Prop := newsRow.holds Tryz.pinned (OpenSpec.ofChange newsSpec)

/-- ITS FALSE NEIGHBOUR: 'it returns false'. Refute it at one input. -/
def newsWrong : ChangeSpec := { name := "news", fn := fun _ => fun
  | [d] => { results := [.lit (.bool false)], args := [d] }
  | _ => none }
def NewsWrongFalsely : Prop := newsRow.holds Tryz.pinned (OpenSpec.ofChange newsWrong)

/-- 'foremanlaw.Feeds': WHATEVER THE INPUT: true; the input reads as it did. -/
def feedsSpec : ChangeSpec := { name := "feeds", fn := fun _ => fun
  | [d1, d2] => { results := [.lit (.bool true)], args := [d1, d2] }
  | _ => none }
def feedsRow : OpenClaim := { program := "ytlafkpaljibonaagreat", sum := "3e022ad68c63bd5b3f831a3194c1e262214c1a9b443634860ce2ec4574db8607", func := "foreman/foremanlaw.Feeds", spec := "feeds", apart := false }
def FeedsSaid : Prop := feedsRow.holds Tryz.pinned (OpenSpec.ofChange feedsSpec)

/-- ITS FALSE NEIGHBOUR: 'it returns false'. Refute it at one input. -/
def feedsWrong : ChangeSpec := { name := "feeds", fn := fun _ => fun
  | [d1, d2] => { results := [.lit (.bool false)], args := [d1, d2] }
  | _ => none }
def FeedsWrongFalsely : Prop := feedsRow.holds Tryz.pinned (OpenSpec.ofChange feedsWrong)

/-- 'foremanlaw.Works': WHATEVER THE INPUT: true; the input reads as it did. -/
def worksSpec : ChangeSpec := { name := "works", fn := fun _ => fun
  | [d1, d2] => { results := [.lit (.bool true)], args := [d1, d2] }
  | _ => none }
def worksRow : OpenClaim := { program := "ytlafkpaljibonaagreat", sum := "3e022ad68c63bd5b3f831a3194c1e262214c1a9b443634860ce2ec4574db8607", func := "foreman/foremanlaw.Works", spec := "works", apart := false }
def WorksSaid : Prop := worksRow.holds Tryz.pinned (OpenSpec.ofChange worksSpec)

/-- ITS FALSE NEIGHBOUR: 'it returns false'. Refute it at one input. -/
def worksWrong : ChangeSpec := { name := "works", fn := fun _ => fun
  | [d1, d2] => { results := [.lit (.bool false)], args := [d1, d2] }
  | _ => none }
def WorksWrongFalsely : Prop := worksRow.holds Tryz.pinned (OpenSpec.ofChange worksWrong)

/-- 'foremanlaw.Ticks': WHATEVER THE INPUT: true; the input reads as it did. -/
def ticksSpec : ChangeSpec := { name := "ticks", fn := fun _ => fun
  | [d1, d2] => { results := [.lit (.bool true)], args := [d1, d2] }
  | _ => none }
def ticksRow : OpenClaim := { program := "ytlafkpaljibonaagreat", sum := "3e022ad68c63bd5b3f831a3194c1e262214c1a9b443634860ce2ec4574db8607", func := "foreman/foremanlaw.Ticks", spec := "ticks", apart := false }
def TicksSaid : Prop := ticksRow.holds Tryz.pinned (OpenSpec.ofChange ticksSpec)

/-- ITS FALSE NEIGHBOUR: 'it returns false'. Refute it at one input. -/
def ticksWrong : ChangeSpec := { name := "ticks", fn := fun _ => fun
  | [d1, d2] => { results := [.lit (.bool false)], args := [d1, d2] }
  | _ => none }
def TicksWrongFalsely : Prop := ticksRow.holds Tryz.pinned (OpenSpec.ofChange ticksWrong)

/-- 'foremanlaw.All': WHATEVER THE INPUT: true; the input reads as it did. -/
def allSpec : ChangeSpec := { name := "all", fn := fun _ => fun
  | [d1, d2, d3] => { results := [.lit (.bool true)], args := [d1, d2, d3] }
  | _ => none }
def allRow : OpenClaim := { program := "ytlafkpaljibonaagreat", sum := "3e022ad68c63bd5b3f831a3194c1e262214c1a9b443634860ce2ec4574db8607", func := "foreman/foremanlaw.All", spec := "all", apart := false }
def AllSaid : Prop := allRow.holds Tryz.pinned (OpenSpec.ofChange allSpec)

/-- ITS FALSE NEIGHBOUR: 'it returns false'. Refute it at one input. -/
def allWrong : ChangeSpec := { name := "all", fn := fun _ => fun
  | [d1, d2, d3] => { results := [.lit (.bool false)], args := [d1, d2, d3] }
  | _ => none }
def AllWrongFalsely : Prop := allRow.holds Tryz.pinned (OpenSpec.ofChange allWrong)

/- THE SECOND FORM. 'bulk': how many values and letters a reading holds, each counted each time it is reached (what is shared counts as often as it is met; a slice's spare places count too). A statement '..UptoSaid' is the law's where the arguments, and the package variables that the reading takes, are together of bulk at most 1048576: NARROWER than '..Said'. Prove '..Said' where nothing that the law and all that it calls make is longer than what came in: it says more and counts as full. Else prove '..UptoSaid'. A law counts once. -/
mutual
def uptoBulk {H : Type} : DataW H → Nat
  | .lit (.string bytes) => bytes.length + 1
  | .lit _ => 1
  | .nil => 1
  | .ptr d => uptoBulk d + 1
  | .slice elems spare => uptoBulkAll elems + uptoBulkAll spare + 1
  | .agg parts => uptoBulkAll parts + 1
  | .iface _ d => uptoBulk d + 1
  | .map entries => uptoBulkEntries entries + 1
  | .held _ => 1
def uptoBulkAll {H : Type} : List (DataW H) → Nat
  | [] => 0
  | d :: r => uptoBulk d + uptoBulkAll r
def uptoBulkEntries {H : Type} : List (Lit × DataW H) → Nat
  | [] => 0
  | x :: r => uptoBulkEntry x + uptoBulkEntries r
def uptoBulkEntry {H : Type} : Lit × DataW H → Nat
  | (.string bytes, d) => bytes.length + uptoBulk d + 1
  | (_, d) => uptoBulk d + 1
 end
def uptoSmall : (H : Type) → List (DataW H) → Bool := fun _ ds => decide (uptoBulkAll ds ≤ 1048576)
def OpenSpec.upto (s : _root_.Go.ChangeSpec) : _root_.Go.OpenSpec := { _root_.Go.OpenSpec.ofChange s with cond := some uptoSmall }

/-- 'foremanlaw.News', WHERE WHAT IT READS IS OF BULK AT MOST 1048576: true; the input reads as it did. -/
def newsUptoRow : OpenClaim := { program := "ytlafkpaljibonaagreat", sum := "3e022ad68c63bd5b3f831a3194c1e262214c1a9b443634860ce2ec4574db8607", func := "foreman/foremanlaw.News", spec := "news", apart := false, narrowed := true }
def NewsUptoSaid : Prop := newsUptoRow.holds Tryz.pinned (OpenSpec.upto newsSpec)

/-- 'foremanlaw.Feeds', WHERE WHAT IT READS IS OF BULK AT MOST 1048576: true; the input reads as it did. -/
def feedsUptoRow : OpenClaim := { program := "ytlafkpaljibonaagreat", sum := "3e022ad68c63bd5b3f831a3194c1e262214c1a9b443634860ce2ec4574db8607", func := "foreman/foremanlaw.Feeds", spec := "feeds", apart := false, narrowed := true }
def FeedsUptoSaid : Prop := feedsUptoRow.holds Tryz.pinned (OpenSpec.upto feedsSpec)

/-- 'foremanlaw.Works', WHERE WHAT IT READS IS OF BULK AT MOST 1048576: true; the input reads as it did. -/
def worksUptoRow : OpenClaim := { program := "ytlafkpaljibonaagreat", sum := "3e022ad68c63bd5b3f831a3194c1e262214c1a9b443634860ce2ec4574db8607", func := "foreman/foremanlaw.Works", spec := "works", apart := false, narrowed := true }
def WorksUptoSaid : Prop := worksUptoRow.holds Tryz.pinned (OpenSpec.upto worksSpec)

/-- 'foremanlaw.Ticks', WHERE WHAT IT READS IS OF BULK AT MOST 1048576: true; the input reads as it did. -/
def ticksUptoRow : OpenClaim := { program := "ytlafkpaljibonaagreat", sum := "3e022ad68c63bd5b3f831a3194c1e262214c1a9b443634860ce2ec4574db8607", func := "foreman/foremanlaw.Ticks", spec := "ticks", apart := false, narrowed := true }
def TicksUptoSaid : Prop := ticksUptoRow.holds Tryz.pinned (OpenSpec.upto ticksSpec)

/-- 'foremanlaw.All', WHERE WHAT IT READS IS OF BULK AT MOST 1048576: true; the input reads as it did. -/
def allUptoRow : OpenClaim := { program := "ytlafkpaljibonaagreat", sum := "3e022ad68c63bd5b3f831a3194c1e262214c1a9b443634860ce2ec4574db8607", func := "foreman/foremanlaw.All", spec := "all", apart := false, narrowed := true }
def AllUptoSaid : Prop := allUptoRow.holds Tryz.pinned (OpenSpec.upto allSpec)

end Rows
end Go.Proofs.YtlafkpaljibonaaGreat
