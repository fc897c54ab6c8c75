import Derived.Test.YtlafkpaljibonaaH
namespace Go.Proofs.Ytlafkpaljibonaa
open Go.RowKit

/-- The record with which an owner writes over a list that came out. -/
def X : Rec := (-1, 0, ⟨#[]⟩)
def xs (k : Nat) : List Value := rowOf (List.replicate k X)
def xat (j : Nat) : Value := if j % 3 = 0 then .int .i64 (-1) else if j % 3 = 1 then .int .i64 0 else .string ⟨#[]⟩

theorem xs_length (k : Nat) : (xs k).length = k * 3 := by simp [xs, rowOf_length]

theorem xs_succ (k : Nat) : xs (k + 1) = .int .i64 (-1) :: .int .i64 0 :: .string ⟨#[]⟩ :: xs k := by
  simp [xs, List.replicate_succ, rowOf, rcells, X]

theorem xs_get (k j : Nat) (h : j < k * 3) : (xs k)[j]? = some (xat j) := by
  induction k generalizing j with
  | zero => omega
  | succ k ih =>
    rw [xs_succ]
    match j with
    | 0 => rfl
    | 1 => rfl
    | 2 => rfl
    | j + 3 =>
      have := ih j (by omega)
      have e : xat (j + 3) = xat j := by simp [xat]
      rw [e]
      simpa using this

theorem xs_add (a b : Nat) : xs (a + b) = xs a ++ xs b := by
  simp only [xs]; rw [← List.replicate_append_replicate, rowOf_append]

theorem xs_ext {l : List Value} {k : Nat} (hl : l.length = k * 3) (h : ∀ j, j < k * 3 → l[j]? = some (xat j)) : l = xs k := by
  apply List.ext_getElem?
  intro j
  by_cases hj : j < k * 3
  · rw [h j hj, xs_get k j hj]
  · rw [List.getElem?_eq_none (by omega), List.getElem?_eq_none (by rw [xs_length]; omega)]

theorem xs_one {k : Nat} : ∀ u ∈ xs k, u.oneCell' = true := by
  intro u hu
  simp only [xs, rowOf, List.mem_flatMap] at hu
  obtain ⟨r, _, hr⟩ := hu
  exact one_rec r u hr

def ownX (w : World) (base : Nat) (v : Value) (n : Nat) : Prop := w.ownsRow base 23 3 v n (xs n)

set_option maxRecDepth 100000 in
theorem append_X (w : World) (ty : TypeId) (base : Nat) (v : Value) (n : Nat) (hown : ownX w base v n) (ad : Addr) (m c : Nat) (hnews : ∀ j u, (xs m)[j]? = some u → w.cell? (ad.add j) = some u)
    (hm : 0 < m) (hb : n + m ≤ 1000000000000) (hbase : base ≤ w.heap.size) :
    ∃ g cap w', (Builtin.append_ #[32, 32] ty #[v, .slice (some ad) m c]).run Try.prog w = .ok (.slice (some ⟨g, 0, none⟩) (n + m) cap) w' ∧
      ownX w' base (.slice (some ⟨g, 0, none⟩) (n + m) cap) (n + m) ∧ w.grownBy w' v.ownBlock ∧ (∀ base' u k, ownX w base' u k → ownX w' base' u k) ∧ g < w'.heap.size := by
  obtain ⟨i0, hi, hz0, hz1, hz2⟩ := info_parts info23
  obtain ⟨g, cap, w', hr, h2, h3, h4, h5⟩ := run_append_lies (P := Try.prog) w 32 ty base 23 i0 (.agg #[.int .i64 0, .int .i64 0, .string ⟨#[]⟩]) 3 32 Try.underlying32 hi hz0 hz1 hz2 rfl (by omega) v n (xs n) hown ad m c (xs m) (xs_length m) hnews xs_one hm (by unfold maxLen; omega) (by omega) hbase _ rfl
  refine ⟨g, cap, w', hr, ?_, h3, ?_, h5⟩
  · unfold ownX; rw [xs_add]; exact h2
  · intro base' u k hu
    rcases hown.2 with ⟨rfl, rfl⟩ | ⟨g0, cap0, cur, rfl, hbg, hg, hnc, hcm, hcs, htake⟩
    · exact World.ownsRow.kept hu h3 (by cases hv : u.ownBlock <;> simp [Value.ownBlock])
    · by_cases hroom : n + m ≤ cap0
      · have hfit : n * i0.size + (xs m).length ≤ cur.size := by rw [hz1, hcs, xs_length, ← Nat.add_mul]; exact Nat.mul_le_mul_right _ hroom
        have hr' := run_append_room (P := Try.prog) w 32 ty 23 i0 Try.underlying32 hi g0 n cap0 cur hg ad m c (xs m) (by rw [hz1]; exact xs_length m) hnews xs_one hroom hfit
        rw [hr] at hr'
        simp only [Result.ok.injEq] at hr'
        obtain ⟨-, hw'⟩ := hr'
        rw [hz1] at hw'
        rcases hu.2 with ⟨rfl, rfl⟩ | ⟨g1, cap1, cur1, rfl, hbg1, hg1, hnc1, hcm1, hcs1, htake1⟩
        · exact ⟨by simp [xs_length], .inl ⟨rfl, rfl⟩⟩
        · by_cases hgg : g1 = g0
          · subst hgg
            rw [hg] at hg1
            simp only [Option.some.injEq, Obj.cells.injEq, and_true] at hg1
            obtain ⟨rfl, -⟩ := hg1
            have hsz : cur.toList.length = cap0 * 3 := by simpa using hcs
            refine ⟨xs_length k, .inr ⟨g1, cap1, _, rfl, hbg1, (by rw [hw']; exact setRow_heap w g1 cur _ _ _ hg), hnc1, hcm1, ?_, ?_⟩⟩
            · simp only [List.size_toArray, List.length_append, List.length_take, List.length_drop, xs_length, hsz]
              have : (n + m) * 3 ≤ cap0 * 3 := Nat.mul_le_mul_right _ hroom
              have : cap0 * 3 = cap1 * 3 := by rw [← hcs, ← hcs1]
              omega
            · have hk3 : k * 3 ≤ cap0 * 3 := by
                have : cap0 * 3 = cap1 * 3 := by rw [← hcs, ← hcs1]
                have : k * 3 ≤ cap1 * 3 := Nat.mul_le_mul_right _ hnc1
                omega
              have hnm : (n + m) * 3 ≤ cap0 * 3 := Nat.mul_le_mul_right _ hroom
              refine xs_ext ?_ ?_
              · simp only [List.length_take, List.length_append, List.length_drop, xs_length, hsz]
                omega
              · intro j hj
                rw [List.getElem?_take, if_pos hj]
                by_cases j1 : j < n * 3
                · rw [List.append_assoc, List.getElem?_append_left (by simp only [List.length_take, hsz]; omega), htake, xs_get n j j1]
                · by_cases j2 : j < n * 3 + m * 3
                  · rw [List.getElem?_append_left (by simp only [List.length_append, List.length_take, hsz, xs_length]; omega), List.getElem?_append_right (by simp only [List.length_take, hsz]; omega)]
                    rw [show (List.take (n * 3) cur.toList).length = n * 3 from by simp only [List.length_take, hsz]; omega, xs_get m _ (by omega)]
                    congr 1
                    unfold xat
                    rw [show (j - n * 3) % 3 = j % 3 from by omega]
                  · rw [List.getElem?_append_right (by simp only [List.length_append, List.length_take, hsz, xs_length]; omega), List.getElem?_drop]
                    rw [show (List.take (n * 3) cur.toList ++ xs m).length = n * 3 + m * 3 from by simp only [List.length_append, List.length_take, hsz, xs_length]; omega]
                    rw [show n * 3 + (xs m).length + (j - (n * 3 + m * 3)) = j from by rw [xs_length]; omega]
                    have := xs_get k j hj
                    rw [← htake1, List.getElem?_take, if_pos hj] at this
                    exact this
          · exact World.ownsRow.kept hu h3 (by simp [Value.ownBlock, hgg])
      · have holds : ∀ j u, (xs n)[j]? = some u → w.cell? ((⟨g0, 0, none⟩ : Addr).add j) = some u := World.ownsRow.cells hown (g := g0) rfl
        have hr' := run_append_grow (P := Try.prog) w 32 ty 23 i0 (.agg #[.int .i64 0, .int .i64 0, .string ⟨#[]⟩]) Try.underlying32 hi hz0 ⟨g0, 0, none⟩ n cap0 (xs n) (by rw [hz1]; exact xs_length n) holds ad m c (xs m) (by rw [hz1]; exact xs_length m) hnews (by omega) (by omega) (by rw [hz2]; exact growslice_fits (by omega) (by omega))
        rw [hr] at hr'
        simp only [Result.ok.injEq] at hr'
        rw [hr'.2]
        exact World.ownsRow.alloc hu _

end Go.Proofs.Ytlafkpaljibonaa
