import Derived.Test.YtmjnengplfoiiaaGreatRows
import Derived.WalkKit
import Derived.WalkSpells
import Derived.WalkLawsBesides
import Derived.BigQuiet
import Derived.Deep.QuietTactic
namespace Go.Proofs.YtmjnengplfoiiaaGreat
open Go.RowKit

def isKindB (k : Int) : Bool := k == 1 || k == 2 || k == 3 || k == 5 || k == 6

set_option maxRecDepth 100000 in
set_option maxHeartbeats 400000 in
theorem num_any (e : Int) (w : World) :
    Calls Tryz.prog 13 #[.int .i64 e] w fun r w' => r = .returned (.int .i64 e) ∧ w' = w := by
  go_enter Tryz.func13, Tryz.ntmps13
  go_wp2
  go_ret
  exact ⟨rfl, rfl⟩

set_option maxRecDepth 100000 in
set_option maxHeartbeats 400000 in
theorem isKind_any (k : Int) (w : World) :
    Calls Tryz.prog 119 #[.int .i64 k] w fun r w' => r = .returned (.bool (isKindB k)) ∧ w' = w := by
  unfold isKindB
  go_enter Tryz.func119, Tryz.ntmps119
  go_wp2
  all_goals (go_ret; exact ⟨by simp [*], rfl⟩)

set_option maxRecDepth 100000 in
set_option maxHeartbeats 400000 in
theorem refIsKind_any (k : Int) (w : World) :
    Calls Tryz.prog 91 #[.int .i64 k] w fun r w' => r = .returned (.bool (isKindB k)) ∧ w' = w := by
  unfold isKindB
  go_enter Tryz.func91, Tryz.ntmps91
  go_wp2
  all_goals (go_ret; exact ⟨by simp [*], rfl⟩)

end Go.Proofs.YtmjnengplfoiiaaGreat
