import Derived.Test.YtlafkpaljibonaaGreatR6
namespace Go.Proofs.YtlafkpaljibonaaGreat
open Go.RowKit

/-- The marks with which an owner writes over a list that came out. -/
def ms (t : Int) (k : Nat) : List Value := keyCells (List.replicate k (t, -1))
def mat (t : Int) (j : Nat) : Value := if j % 2 = 0 then .int .i64 t else .int .i64 (-1)

theorem ms_length (t : Int) (k : Nat) : (ms t k).length = k * 2 := by simp [ms, keyCells_length]
theorem ms_succ (t : Int) (k : Nat) : ms t (k + 1) = .int .i64 t :: .int .i64 (-1) :: ms t k := by
  simp [ms, List.replicate_succ, keyCells]
theorem ms_get (t : Int) (k j : Nat) (h : j < k * 2) : (ms t k)[j]? = some (mat t j) := by
  induction k generalizing j with
  | zero => omega
  | succ k ih =>
    rw [ms_succ]
    match j with
    | 0 => rfl
    | 1 => rfl
    | j + 2 =>
      have := ih j (by omega)
      have e : mat t (j + 2) = mat t j := by simp [mat]
      rw [e]
      simpa using this
theorem ms_add (t : Int) (a b : Nat) : ms t (a + b) = ms t a ++ ms t b := by
  simp only [ms]; rw [← List.replicate_append_replicate, keyCells_append]
theorem ms_ext {t : Int} {l : List Value} {k : Nat} (hl : l.length = k * 2) (h : ∀ j, j < k * 2 → l[j]? = some (mat t j)) : l = ms t k := by
  apply List.ext_getElem?
  intro j
  by_cases hj : j < k * 2
  · rw [h j hj, ms_get t k j hj]
  · rw [List.getElem?_eq_none (by omega), List.getElem?_eq_none (by rw [ms_length]; omega)]
theorem ms_one (t : Int) (k : Nat) : ∀ u ∈ ms t k, u.oneCell' = true := keyCells_one _

def ownM (t : Int) (w : World) (base : Nat) (v : Value) (n : Nat) : Prop := w.ownsRow base 89 2 v n (ms t n)

set_option maxRecDepth 100000 in
theorem append_M (t : Int) (w : World) (ty : TypeId) (base : Nat) (v : Value) (n : Nat) (hown : ownM t w base v n) (ad : Addr) (m c : Nat) (hnews : ∀ j u, (ms t m)[j]? = some u → w.cell? (ad.add j) = some u)
    (hm : 0 < m) (hb : n + m ≤ 1000000000000) (hbase : base ≤ w.heap.size) :
    ∃ g cap w', (Builtin.append_ #[86, 86] ty #[v, .slice (some ad) m c]).run Tryz.prog w = .ok (.slice (some ⟨g, 0, none⟩) (n + m) cap) w' ∧
      ownM t w' base (.slice (some ⟨g, 0, none⟩) (n + m) cap) (n + m) ∧ w.grownBy w' v.ownBlock ∧ (∀ base' u k, ownM t w base' u k → ownM t w' base' u k) ∧ g < w'.heap.size ∧ (v.ownBlock = some g ∨ g = w.heap.size) := by
  obtain ⟨i0, hi, hz0, hz1, hz2⟩ := info_parts infoKey
  obtain ⟨g, cap, w', hr, h2, h3, h4, h5⟩ := run_append_lies (P := Tryz.prog) w 86 ty base 89 i0 (.agg #[.int .i64 0, .int .i64 0]) 2 16 Tryz.underlying86 hi hz0 hz1 hz2 rfl (by omega) v n (ms t n) hown ad m c (ms t m) (ms_length t m) hnews (ms_one t _) hm (by unfold maxLen; omega) (by omega) hbase _ rfl
  refine ⟨g, cap, w', hr, ?_, h3, ?_, h5, h4⟩
  · unfold ownM; rw [ms_add t]; exact h2
  · intro base' u k hu
    rcases hown.2 with ⟨rfl, rfl⟩ | ⟨g0, cap0, cur, rfl, hbg, hg, hnc, hcm, hcs, htake⟩
    · exact World.ownsRow.kept hu h3 (by cases hv : u.ownBlock <;> simp [Value.ownBlock])
    · by_cases hroom : n + m ≤ cap0
      · have hfit : n * i0.size + (ms t m).length ≤ cur.size := by rw [hz1, hcs, ms_length, ← Nat.add_mul]; exact Nat.mul_le_mul_right _ hroom
        have hr' := run_append_room (P := Tryz.prog) w 86 ty 89 i0 Tryz.underlying86 hi g0 n cap0 cur hg ad m c (ms t m) (by rw [hz1]; exact ms_length t m) hnews (ms_one t _) hroom hfit
        rw [hr] at hr'
        simp only [Result.ok.injEq] at hr'
        obtain ⟨-, hw'⟩ := hr'
        rw [hz1] at hw'
        rcases hu.2 with ⟨rfl, rfl⟩ | ⟨g1, cap1, cur1, rfl, hbg1, hg1, hnc1, hcm1, hcs1, htake1⟩
        · exact ⟨by simp [ms_length], .inl ⟨rfl, rfl⟩⟩
        · by_cases hgg : g1 = g0
          · subst hgg
            rw [hg] at hg1
            simp only [Option.some.injEq, Obj.cells.injEq, and_true] at hg1
            obtain ⟨rfl, -⟩ := hg1
            have hsz : cur.toList.length = cap0 * 2 := by simpa using hcs
            refine ⟨ms_length t k, .inr ⟨g1, cap1, _, rfl, hbg1, (by rw [hw']; exact setRow_heap w g1 cur _ _ _ hg), hnc1, hcm1, ?_, ?_⟩⟩
            · simp only [List.size_toArray, List.length_append, List.length_take, List.length_drop, ms_length, hsz]
              have : (n + m) * 2 ≤ cap0 * 2 := Nat.mul_le_mul_right _ hroom
              have : cap0 * 2 = cap1 * 2 := by rw [← hcs, ← hcs1]
              omega
            · have hk2 : k * 2 ≤ cap0 * 2 := by
                have : cap0 * 2 = cap1 * 2 := by rw [← hcs, ← hcs1]
                have : k * 2 ≤ cap1 * 2 := Nat.mul_le_mul_right _ hnc1
                omega
              have hnm : (n + m) * 2 ≤ cap0 * 2 := Nat.mul_le_mul_right _ hroom
              refine ms_ext ?_ ?_
              · simp only [List.length_take, List.length_append, List.length_drop, ms_length, hsz]
                omega
              · intro j hj
                rw [List.getElem?_take, if_pos hj]
                by_cases j1 : j < n * 2
                · rw [List.append_assoc, List.getElem?_append_left (by simp only [List.length_take, hsz]; omega), htake, ms_get t n j j1]
                · by_cases j2 : j < n * 2 + m * 2
                  · rw [List.getElem?_append_left (by simp only [List.length_append, List.length_take, hsz, ms_length]; omega), List.getElem?_append_right (by simp only [List.length_take, hsz]; omega)]
                    rw [show (List.take (n * 2) cur.toList).length = n * 2 from by simp only [List.length_take, hsz]; omega, ms_get t m _ (by omega)]
                    congr 1
                    unfold mat
                    rw [show (j - n * 2) % 2 = j % 2 from by omega]
                  · rw [List.getElem?_append_right (by simp only [List.length_append, List.length_take, hsz, ms_length]; omega), List.getElem?_drop]
                    rw [show (List.take (n * 2) cur.toList ++ ms t m).length = n * 2 + m * 2 from by simp only [List.length_append, List.length_take, hsz, ms_length]; omega]
                    rw [show n * 2 + (ms t m).length + (j - (n * 2 + m * 2)) = j from by rw [ms_length]; omega]
                    have := ms_get t k j hj
                    rw [← htake1, List.getElem?_take, if_pos hj] at this
                    exact this
          · exact World.ownsRow.kept hu h3 (by simp [Value.ownBlock, hgg])
      · have holds : ∀ j u, (ms t n)[j]? = some u → w.cell? ((⟨g0, 0, none⟩ : Addr).add j) = some u := World.ownsRow.cells hown (g := g0) rfl
        have hr' := run_append_grow (P := Tryz.prog) w 86 ty 89 i0 (.agg #[.int .i64 0, .int .i64 0]) Tryz.underlying86 hi hz0 ⟨g0, 0, none⟩ n cap0 (ms t n) (by rw [hz1]; exact ms_length t n) holds ad m c (ms t m) (by rw [hz1]; exact ms_length t m) hnews (by omega) (by omega) (by rw [hz2]; exact growslice_fits (by omega) (by omega))
        rw [hr] at hr'
        simp only [Result.ok.injEq] at hr'
        rw [hr'.2]
        exact World.ownsRow.alloc hu _

end Go.Proofs.YtlafkpaljibonaaGreat
