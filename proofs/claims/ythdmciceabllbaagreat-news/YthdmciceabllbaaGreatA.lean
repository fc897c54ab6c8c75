import Derived.Test.YthdmciceabllbaaGreatRows
import Derived.WalkKit
import Derived.WalkSpells
import Derived.WalkLawsBesides
import Derived.BigQuiet
import Derived.Deep.QuietTactic
namespace Go.Proofs.YthdmciceabllbaaGreat
open Go.RowKit

def isKindB (k : Int) : Bool := k == 1 || k == 2 || k == 3 || k == 5 || k == 6

set_option maxRecDepth 100000 in
set_option maxHeartbeats 400000 in
theorem num_any (e : Int) (w : World) :
    Calls Tryz.prog 11 #[.int .i64 e] w fun r w' => r = .returned (.int .i64 e) ∧ w' = w := by
  go_enter Tryz.func11, Tryz.ntmps11
  go_wp2
  go_ret
  exact ⟨rfl, rfl⟩

set_option maxRecDepth 100000 in
set_option maxHeartbeats 400000 in
theorem isKind_any (k : Int) (w : World) :
    Calls Tryz.prog 110 #[.int .i64 k] w fun r w' => r = .returned (.bool (isKindB k)) ∧ w' = w := by
  unfold isKindB
  go_enter Tryz.func110, Tryz.ntmps110
  go_wp2
  all_goals (go_ret; exact ⟨by simp [*], rfl⟩)

set_option maxRecDepth 100000 in
set_option maxHeartbeats 400000 in
theorem refIsKind_any (k : Int) (w : World) :
    Calls Tryz.prog 82 #[.int .i64 k] w fun r w' => r = .returned (.bool (isKindB k)) ∧ w' = w := by
  unfold isKindB
  go_enter Tryz.func82, Tryz.ntmps82
  go_wp2
  all_goals (go_ret; exact ⟨by simp [*], rfl⟩)

end Go.Proofs.YthdmciceabllbaaGreat
