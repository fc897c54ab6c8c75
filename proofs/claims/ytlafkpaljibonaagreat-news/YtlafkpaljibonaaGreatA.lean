import Derived.Test.YtlafkpaljibonaaGreatRows
import Derived.WalkKit
import Derived.WalkSpells
import Derived.WalkLawsBesides
import Derived.BigQuiet
import Derived.Deep.QuietTactic
namespace Go.Proofs.YtlafkpaljibonaaGreat
open Go.RowKit

def isKindB (k : Int) : Bool := k == 1 || k == 2 || k == 3 || k == 5 || k == 6

set_option maxRecDepth 100000 in
set_option maxHeartbeats 400000 in
theorem num_any (e : Int) (w : World) :
    Calls Tryz.prog 15 #[.int .i64 e] w fun r w' => r = .returned (.int .i64 e) ∧ w' = w := by
  go_enter Tryz.func15, Tryz.ntmps15
  go_wp2
  go_ret
  exact ⟨rfl, rfl⟩

set_option maxRecDepth 100000 in
set_option maxHeartbeats 400000 in
theorem isKind_any (k : Int) (w : World) :
    Calls Tryz.prog 128 #[.int .i64 k] w fun r w' => r = .returned (.bool (isKindB k)) ∧ w' = w := by
  unfold isKindB
  go_enter Tryz.func128, Tryz.ntmps128
  go_wp2
  all_goals (go_ret; exact ⟨by simp [*], rfl⟩)

set_option maxRecDepth 100000 in
set_option maxHeartbeats 400000 in
theorem refIsKind_any (k : Int) (w : World) :
    Calls Tryz.prog 100 #[.int .i64 k] w fun r w' => r = .returned (.bool (isKindB k)) ∧ w' = w := by
  unfold isKindB
  go_enter Tryz.func100, Tryz.ntmps100
  go_wp2
  all_goals (go_ret; exact ⟨by simp [*], rfl⟩)

end Go.Proofs.YtlafkpaljibonaaGreat
