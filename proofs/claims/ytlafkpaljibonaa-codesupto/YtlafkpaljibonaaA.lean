import Derived.Test.YtlafkpaljibonaaRows
import Derived.WalkKit
import Derived.WalkSpells
import Derived.WalkLawsBesides
import Derived.BigQuiet
import Derived.Deep.QuietTactic
namespace Go.Proofs.Ytlafkpaljibonaa
open Go.RowKit

def isKindB (k : Int) : Bool := k == 1 || k == 2 || k == 3 || k == 5 || k == 6

set_option maxRecDepth 100000 in
set_option maxHeartbeats 400000 in
theorem num_any (e : Int) (w : World) :
    Calls Try.prog 13 #[.int .i64 e] w fun r w' => r = .returned (.int .i64 e) ∧ w' = w := by
  go_enter Try.func13, Try.ntmps13
  go_wp2
  go_ret
  exact ⟨rfl, rfl⟩

set_option maxRecDepth 100000 in
set_option maxHeartbeats 400000 in
theorem isKind_any (k : Int) (w : World) :
    Calls Try.prog 94 #[.int .i64 k] w fun r w' => r = .returned (.bool (isKindB k)) ∧ w' = w := by
  unfold isKindB
  go_enter Try.func94, Try.ntmps94
  go_wp2
  all_goals (go_ret; exact ⟨by simp [*], rfl⟩)

set_option maxRecDepth 100000 in
set_option maxHeartbeats 400000 in
theorem refIsKind_any (k : Int) (w : World) :
    Calls Try.prog 45 #[.int .i64 k] w fun r w' => r = .returned (.bool (isKindB k)) ∧ w' = w := by
  unfold isKindB
  go_enter Try.func45, Try.ntmps45
  go_wp2
  all_goals (go_ret; exact ⟨by simp [*], rfl⟩)

end Go.Proofs.Ytlafkpaljibonaa
