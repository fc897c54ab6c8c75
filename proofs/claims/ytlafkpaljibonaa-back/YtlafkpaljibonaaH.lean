import Derived.Test.YtlafkpaljibonaaG
import Derived.Laws.StructEq
namespace Go.Proofs.Ytlafkpaljibonaa
open Go.RowKit

theorem own_empty {w : World} {base : Nat} {e : TypeId} {size : Nat} {v : Value} {xs : List Value} (h : w.ownsRow base e size v 0 xs) : ∃ a c, v = .slice a 0 c := by
  rcases h.2 with ⟨rfl, _⟩ | ⟨g, cap, cur, rfl, _⟩
  · exact ⟨_, _, rfl⟩
  · exact ⟨_, _, rfl⟩

theorem own_cells {w : World} {base g c : Nat} {l : List Rec} (h : w.ownsRow base 23 3 (.slice (some ⟨g, 0, none⟩) l.length c) l.length (rowOf l)) :
    ∀ k (hk : k < l.length), w.cell? ⟨g, k * 3, none⟩ = some (.int .i64 l[k].1) ∧ w.cell? ⟨g, k * 3 + 1, none⟩ = some (.int .i64 l[k].2.1) ∧ w.cell? ⟨g, k * 3 + 2, none⟩ = some (.string l[k].2.2) := by
  intro k hk
  have := rowOf_get l k hk
  rw [Nat.mul_comm 3 k] at this
  rw [h.cellAt _ (by omega), h.cellAt _ (by omega), h.cellAt _ (by omega)]
  exact this

set_option maxRecDepth 100000 in
set_option maxHeartbeats 1000000 in
theorem sameRecords_nil (a b : Option Addr) (c d : Nat) (w : World) :
    Calls Try.prog 47 #[.slice a 0 c, .slice b 0 d] w fun r w' => r = .returned (.bool true) ∧ ∃ n, w' = w.drewN n := by
  go_enter Try.func47, Try.ntmps47
  go_wp2
  refine wp_loop_rounds 1 ?_
  rw [rounds_succ]
  go_wp2
  go_ret
  exact ⟨rfl, 0, rfl⟩

set_option maxRecDepth 100000 in
set_option maxHeartbeats 1000000 in
theorem sameRecords_some (g1 g2 c1 c2 : Nat) (l : List Rec) (w : World) (hl : l.length ≤ 1000000000000)
    (h1 : ∀ k (hk : k < l.length), w.cell? ⟨g1, k * 3, none⟩ = some (.int .i64 l[k].1) ∧ w.cell? ⟨g1, k * 3 + 1, none⟩ = some (.int .i64 l[k].2.1) ∧ w.cell? ⟨g1, k * 3 + 2, none⟩ = some (.string l[k].2.2))
    (h2 : ∀ k (hk : k < l.length), w.cell? ⟨g2, k * 3, none⟩ = some (.int .i64 l[k].1) ∧ w.cell? ⟨g2, k * 3 + 1, none⟩ = some (.int .i64 l[k].2.1) ∧ w.cell? ⟨g2, k * 3 + 2, none⟩ = some (.string l[k].2.2)) :
    Calls Try.prog 47 #[.slice (some ⟨g1, 0, none⟩) l.length c1, .slice (some ⟨g2, 0, none⟩) l.length c2] w fun r w' => r = .returned (.bool true) ∧ ∃ n, w' = w.drewN n := by
  go_enter Try.func47, Try.ntmps47
  go_wp2
  go_loopw [5] (fun i w' => ∃ k m : Nat, k ≤ l.length ∧ i = .int .i64 k ∧ w' = w.drewN m) (fun i _ => l.length - (intOf i).toNat)
  case atStart => exact ⟨0, 0, Nat.zero_le _, rfl, rfl⟩
  case round =>
    obtain ⟨k, m, hk, rfl, rfl⟩ := hrel
    by_cases hlt : k < l.length
    · obtain ⟨p1, p2, p3⟩ := h1 k hlt
      obtain ⟨q1, q2, q3⟩ := h2 k hlt
      clear h1 h2
      generalize l[k] = r at *
      go_wp2
      go_quiet (fail)
      go_wp2
      exact ⟨⟨k + 1, m + nq, by omega, by go_num, rfl⟩, by simp [intOf]; omega⟩
    · go_wp2
      go_ret
      exact ⟨rfl, m, rfl⟩

theorem sameRecords_own (va vb : Value) (b1 b2 : Nat) (l : List Rec) (w : World) (hl : l.length ≤ 1000000000000)
    (h1 : w.ownsRow b1 23 3 va l.length (rowOf l)) (h2 : w.ownsRow b2 23 3 vb l.length (rowOf l)) :
    Calls Try.prog 47 #[va, vb] w fun r w' => r = .returned (.bool true) ∧ ∃ n, w' = w.drewN n := by
  by_cases h0 : l.length = 0
  · rw [h0] at h1 h2
    obtain ⟨a, c, rfl⟩ := own_empty h1
    obtain ⟨b, d, rfl⟩ := own_empty h2
    exact sameRecords_nil a b c d w
  · obtain ⟨g1, c1, rfl, -, -⟩ := h1.form (by omega)
    obtain ⟨g2, c2, rfl, -, -⟩ := h2.form (by omega)
    exact sameRecords_some g1 g2 c1 c2 l w hl (own_cells h1) (own_cells h2)

set_option maxRecDepth 100000 in
set_option maxHeartbeats 1000000 in
theorem same_nil (a b : Option Addr) (c d : Nat) (w : World) :
    Calls Try.prog 20 #[.slice a 0 c, .slice b 0 d] w fun r w' => r = .returned (.bool true) ∧ ∃ n, w' = w.drewN n := by
  go_enter Try.func20, Try.ntmps20
  go_wp2
  refine wp_loop_rounds 1 ?_
  rw [rounds_succ]
  go_wp2
  go_ret
  exact ⟨rfl, 0, rfl⟩

set_option maxRecDepth 100000 in
set_option maxHeartbeats 1000000 in
theorem same_some (g1 g2 c1 c2 : Nat) (l : List Rec) (w : World) (hl : l.length ≤ 1000000000000)
    (h1 : ∀ k (hk : k < l.length), w.cell? ⟨g1, k * 3, none⟩ = some (.int .i64 l[k].1) ∧ w.cell? ⟨g1, k * 3 + 1, none⟩ = some (.int .i64 l[k].2.1) ∧ w.cell? ⟨g1, k * 3 + 2, none⟩ = some (.string l[k].2.2))
    (h2 : ∀ k (hk : k < l.length), w.cell? ⟨g2, k * 3, none⟩ = some (.int .i64 l[k].1) ∧ w.cell? ⟨g2, k * 3 + 1, none⟩ = some (.int .i64 l[k].2.1) ∧ w.cell? ⟨g2, k * 3 + 2, none⟩ = some (.string l[k].2.2)) :
    Calls Try.prog 20 #[.slice (some ⟨g1, 0, none⟩) l.length c1, .slice (some ⟨g2, 0, none⟩) l.length c2] w fun r w' => r = .returned (.bool true) ∧ ∃ n, w' = w.drewN n := by
  go_enter Try.func20, Try.ntmps20
  go_wp2
  go_loopw [5] (fun i w' => ∃ k m : Nat, k ≤ l.length ∧ i = .int .i64 k ∧ w' = w.drewN m) (fun i _ => l.length - (intOf i).toNat)
  case atStart => exact ⟨0, 0, Nat.zero_le _, rfl, rfl⟩
  case round =>
    obtain ⟨k, m, hk, rfl, rfl⟩ := hrel
    by_cases hlt : k < l.length
    · obtain ⟨p1, p2, p3⟩ := h1 k hlt
      obtain ⟨q1, q2, q3⟩ := h2 k hlt
      clear h1 h2
      generalize l[k] = r at *
      go_wp2
      go_quiet (fail)
      go_wp2
      exact ⟨⟨k + 1, m + nq, by omega, by go_num, rfl⟩, by simp [intOf]; omega⟩
    · go_wp2
      go_ret
      exact ⟨rfl, m, rfl⟩

theorem same_own (va vb : Value) (b1 b2 : Nat) (l : List Rec) (w : World) (hl : l.length ≤ 1000000000000)
    (h1 : w.ownsRow b1 23 3 va l.length (rowOf l)) (h2 : w.ownsRow b2 23 3 vb l.length (rowOf l)) :
    Calls Try.prog 20 #[va, vb] w fun r w' => r = .returned (.bool true) ∧ ∃ n, w' = w.drewN n := by
  by_cases h0 : l.length = 0
  · rw [h0] at h1 h2
    obtain ⟨a, c, rfl⟩ := own_empty h1
    obtain ⟨b, d, rfl⟩ := own_empty h2
    exact same_nil a b c d w
  · obtain ⟨g1, c1, rfl, -, -⟩ := h1.form (by omega)
    obtain ⟨g2, c2, rfl, -, -⟩ := h2.form (by omega)
    exact same_some g1 g2 c1 c2 l w hl (own_cells h1) (own_cells h2)
end Go.Proofs.Ytlafkpaljibonaa
