import Derived.Test.YtlafkpaljibonaaGreatL0
namespace Go.Proofs.YtlafkpaljibonaaGreat
open Go.RowKit

set_option maxRecDepth 100000 in
set_option maxHeartbeats 2000000 in
theorem marked_any {o : Nat → Tag} {w : World} {t : Tag} {v : Value} {ls : List Value} (each : Nat) (he : each = 1 ∨ each = 3) (h : Row o w t 86 1 v ls.length ls) (hmax : ls.length ≤ 1000000000000)
    (hm : ∀ k (hk : k < ls.length), ∃ n, w.ownsRow 0 89 2 ls[k] n (ms (-1 - ((k / each : Nat) : Int)) n)) :
    Calls Tryz.prog 22 #[v, .int .i64 each] w fun r w' => r = .returned (.bool true) ∧ Below w.heap.size w w' := by
  obtain ⟨ao, c, rfl, hn, hg0⟩ := h.form
  have hrow := h.1
  go_enter Tryz.func22, Tryz.ntmps22
  go_wp2
  go_loopw [5] (fun i w' => ∃ k : Nat, k ≤ ls.length ∧ i = .int .i64 k ∧ Below w.heap.size w w') (fun i _ => ls.length - (intOf i).toNat)
  case atStart => exact ⟨0, by omega, rfl, Below.refl _ _⟩
  case round =>
    obtain ⟨k, hk, rfl, hb⟩ := hrel
    by_cases hlt : k < ls.length
    · obtain ⟨g, rfl, hgo, hg⟩ := hg0 (by omega)
      obtain ⟨n, hk1⟩ := hm k hlt
      obtain ⟨al, cl, hv, hln, hl0⟩ := own_slice hk1
      have c0 := hrow.cellAt k (by omega)
      rw [List.getElem?_eq_getElem hlt, hv, ← hb.cell (by exact hg)] at c0
      rw [hv] at hk1
      have hdiv : (k : Int) / (each : Int) = ((k / each : Nat) : Int) := by simp
      have hdv : ((k / each : Nat) : Int) ≤ k := by have := Nat.div_le_self k each; omega
      have hdp : 0 ≤ ((k / each : Nat) : Int) := Int.natCast_nonneg _
      generalize ((k / each : Nat) : Int) = D at *
      clear hm hv hrow
      go_wp2
      go_loopw [6] (fun i w' => ∃ j : Nat, j ≤ n ∧ i = .int .i64 j ∧ Below w.heap.size w w') (fun i _ => n - (intOf i).toNat)
      case atStart => exact ⟨0, by omega, rfl, hb⟩
      case round =>
        obtain ⟨j, hj, rfl, hbj⟩ := hrel
        rw [hb.cell (by exact hg), ← hbj.cell (by exact hg)] at c0
        by_cases hjl : j < n
        · obtain ⟨gl, rfl, -, hgl⟩ := hl0 (by omega)
          have d0 := hk1.cellAt (j * 2) (by omega)
          have d1 := hk1.cellAt (j * 2 + 1) (by omega)
          rw [ms_get _ n _ (by omega), ← hbj.cell (by exact hgl)] at d0 d1
          have e0 : mat (-1 - D) (j * 2) = .int .i64 (-1 - D) := by simp [mat]
          have e1 : mat (-1 - D) (j * 2 + 1) = .int .i64 (-1) := by simp [mat]
          rw [e0] at d0
          rw [e1] at d1
          clear e0 e1
          rcases he with rfl | rfl
          · have hD : D = k := by simpa using hdiv.symm
            subst hD
            go_wp2
            go_quiet (fail)
            go_wp2
            exact ⟨⟨j + 1, by omega, by go_num, below_dN hbj⟩, by simp [intOf]; omega⟩
          · have hD : (k : Int) / 3 = D := by simpa using hdiv
            have hD2 : (k : Int).tdiv 3 = D := by rw [Int.tdiv_eq_ediv_of_nonneg (by omega)]; exact hD
            go_wp2
            go_quiet (fail)
            go_wp2
            exact ⟨⟨j + 1, by omega, by go_num, below_dN hbj⟩, by simp [intOf]; omega⟩
        · go_wp2
          exact ⟨⟨k + 1, by omega, by go_num, hbj⟩, by simp [intOf]; omega⟩
    · go_wp2
      go_ret
      exact ⟨rfl, hb⟩

end Go.Proofs.YtlafkpaljibonaaGreat
