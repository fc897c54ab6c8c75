import Derived.Test.YtlafkpaljibonaaGreatJ3
import Derived.Test.YtlafkpaljibonaaGreatJ2
import Derived.Deep.AppendLies
namespace Go.Proofs.YtlafkpaljibonaaGreat
open Go.RowKit

def RM.waits (m : RM) : List (Int × Int) := m.back.map fun i => ((m.key i).conn, (m.key i).id)

theorem RM.back_lt {m : RM} (hwf : m.wf) {i : Nat} (h : i ∈ m.back) : i < m.keys.length := hwf.q i (List.mem_filter.1 h).1
theorem RM.back_len (m : RM) : m.back.length ≤ m.queue.length := List.length_filter_le _ _

section
variable {o : Nat → Tag} {q : Nat} {w : World} {b : Nat} {m : RM} {lv : Nat → Value} {kv qv : Value}

set_option maxRecDepth 100000 in
set_option maxHeartbeats 2000000 in
theorem rBacklog_any (h : RMem o q w b m lv kv qv) (hwf : m.wf) (hmax : m.queue.length ≤ 1000000000000) :
    Calls Tryz.prog 42 #[.pointer (some ⟨b, 0, none⟩)] w fun r w' => ∃ v, r = .returned v ∧ w'.ownsRow w.heap.size 89 2 v m.waits.length (keyCells m.waits) ∧ Below w.heap.size w w' := by
  obtain ⟨i0, hi, hz0, hz1, hz2⟩ := info_parts infoKey
  obtain ⟨ak, ck, rfl, hkn, hkrow⟩ := h.klist
  have h2 := h.keysv
  have hbl := h.blk.lt
  have hbk := m.back_len
  have hmem := fun {i} (hi : i ∈ m.back) => RM.back_lt hwf hi
  have hwt : Hid (m.waits = m.back.map fun i => ((m.key i).conn, (m.key i).id)) := rfl
  have hwl : m.waits.length = m.back.length := by simp [RM.waits]
  have hcall : Hid (Calls Tryz.prog 69 #[.pointer (some ⟨b, 0, none⟩)] w fun r w' => ∃ v, r = .returned v ∧ w'.ownsRow w.heap.size 3 1 v m.back.length (numCells m.back) ∧ Below w.heap.size w w') := rback_any h hwf hmax
  rw [hwl]
  clear hwl
  generalize m.waits = WT at *
  generalize m.back = L at *
  go_enter Tryz.func42, Tryz.ntmps42
  go_wp2_with fail
  refine hcall.out.mono ?_
  rintro e w1 ⟨v, rfl, hv, hb1⟩
  obtain ⟨al, cl, rfl, hln, hl0⟩ := own_slice hv
  rw [← hb1.cell (by exact hbl)] at h2
  have hbl1 : b < w1.heap.size := Nat.lt_of_lt_of_le hbl hb1.size
  have hs1 := hb1.size
  clear hbl hcall
  go_wp2
  go_loopw [4, 5] (fun u i w' => ∃ j : Nat, j ≤ L.length ∧ i = .int .i64 j ∧ w'.ownsRow w1.heap.size 89 2 u j (keyCells ((L.take j).map fun i => ((m.key i).conn, (m.key i).id))) ∧ Below w1.heap.size w1 w') (fun _ i _ => L.length - (intOf i).toNat)
  case atStart => exact ⟨0, by omega, rfl, World.ownsRow_nil _ _ _ _, Below.refl _ _⟩
  case round =>
    obtain ⟨j, hj, rfl, hown, hb⟩ := hrel
    have hbase := hb.size
    by_cases hlt : j < L.length
    · obtain ⟨gl, rfl, hgl0, hgl⟩ := hl0 (by omega)
      have hx := hmem (List.getElem_mem hlt)
      obtain ⟨gk, rfl, hgk, -, -, -, k0, k1, -, -⟩ := hkrow _ hx
      have cl0 := hv.cellAt j (by omega)
      have hst := List.take_succ_eq_append_getElem hlt
      have HS : Hid _ := hst
      rw [← m.key_eq hx] at k0 k1
      rw [← hb1.cell (by exact hgk)] at k0 k1
      have hgk1 : gk < w1.heap.size := Nat.lt_of_lt_of_le hgk hs1
      rw [← hb.cell (by exact hgk1)] at k0 k1
      rw [← hb.cell (by exact hgl)] at cl0
      rw [← hb.cell (by exact hbl1)] at h2
      have e0 : (numCells L)[j]? = some (.int .i64 (L[j] : Nat)) := by simp [numCells, List.getElem?_map, List.getElem?_eq_getElem hlt]
      rw [e0] at cl0
      clear hst e0 hkrow hmem hv hgl0
      generalize hacc : (List.take j L).map (fun i => ((m.key i).conn, (m.key i).id)) = acc at *
      have HA : Hid _ := hacc
      have hal : acc.length = j := by rw [← hacc, List.length_map, List.length_take]; omega
      clear hacc
      generalize L[j] = x at *
      generalize hcn : (m.key x).conn = cn at *
      generalize hci : (m.key x).id = ci at *
      have HC : Hid (((m.key x).conn, (m.key x).id) = (cn, ci)) := by show _ = _; rw [hcn, hci]
      clear hcn hci
      go_wp2_with fail
      refine wp_region_noPanic ?_
      refine wp_region_held_drew (S := fun w' => w'.cell? ⟨b, 54, none⟩ = some (.slice (some ⟨gk, 0, none⟩) m.keys.length ck) ∧ w'.cell? ⟨gl, j, none⟩ = some (.int .i64 x) ∧ w'.cell? ⟨gk, x * 4, none⟩ = some (.int .i64 cn) ∧ w'.cell? ⟨gk, x * 4 + 1, none⟩ = some (.int .i64 ci)) (by kernel_rfl) ⟨h2, cl0, k0, k1⟩ (fun hHeld => ?_)
      refine take_at (i := 0) (v := ?_) rfl (by kernel_rfl) (by kernel_rfl) (by kernel_rfl) (fun _ _ _ h => h) (by rfl) ?_ (by assumption) ?_
      rotate_left
      · (intro wx hSw; obtain ⟨x0, x1, x2, x3⟩ := hSw; go_simp; with_reducible rfl)
      simp only [Act.put, List.setIfInBounds_toArray, List.set_cons_zero, List.set_cons_succ]
      refine take_at (i := 1) (v := ?_) rfl (by kernel_rfl) (by kernel_rfl) (by kernel_rfl) (fun _ _ _ h => h) (by rfl) ?_ (by assumption) ?_
      rotate_left
      · (intro wx hSw; obtain ⟨x0, x1, x2, x3⟩ := hSw; go_simp; with_reducible rfl)
      simp only [Act.put, List.setIfInBounds_toArray, List.set_cons_zero, List.set_cons_succ]
      refine take_at (i := 2) (v := ?_) rfl (by kernel_rfl) (by kernel_rfl) (by kernel_rfl) (fun _ _ _ h => h) (by rfl) ?_ (by assumption) ?_
      rotate_left
      · (intro wx hSw; obtain ⟨x0, x1, x2, x3⟩ := hSw; go_simp; with_reducible rfl)
      simp only [Act.put, List.setIfInBounds_toArray, List.set_cons_zero, List.set_cons_succ]
      refine take_at (i := 3) (v := ?_) rfl (by kernel_rfl) (by kernel_rfl) (by kernel_rfl) (fun _ _ _ h => h) (by rfl) ?_ (by assumption) ?_
      rotate_left
      · (intro wx hSw; obtain ⟨x0, x1, x2, x3⟩ := hSw; go_simp; with_reducible rfl)
      simp only [Act.put, List.setIfInBounds_toArray, List.set_cons_zero, List.set_cons_succ]
      refine take_at (i := 4) (v := ?_) rfl (by kernel_rfl) (by kernel_rfl) (by kernel_rfl) (fun _ _ _ h => h) (by rfl) ?_ (by assumption) ?_
      rotate_left
      · (intro wx hSw; obtain ⟨x0, x1, x2, x3⟩ := hSw; go_simp; with_reducible rfl)
      simp only [Act.put, List.setIfInBounds_toArray, List.set_cons_zero, List.set_cons_succ]
      refine take_at (i := 5) (v := ?_) rfl (by kernel_rfl) (by kernel_rfl) (by kernel_rfl) (fun _ _ _ h => h) (by rfl) ?_ (by assumption) ?_
      rotate_left
      · (intro wx hSw; obtain ⟨x0, x1, x2, x3⟩ := hSw; go_simp; with_reducible rfl)
      simp only [Act.put, List.setIfInBounds_toArray, List.set_cons_zero, List.set_cons_succ]
      refine take_at (i := 6) (v := ?_) rfl (by kernel_rfl) (by kernel_rfl) (by kernel_rfl) (fun _ _ _ h => h) (by rfl) ?_ (by assumption) ?_
      rotate_left
      · (intro wx hSw; obtain ⟨x0, x1, x2, x3⟩ := hSw; go_simp; with_reducible rfl)
      simp only [Act.put, List.setIfInBounds_toArray, List.set_cons_zero, List.set_cons_succ]
      refine take_at (i := 7) (v := ?_) rfl (by kernel_rfl) (by kernel_rfl) (by kernel_rfl) (fun _ _ _ h => h) (by rfl) ?_ (by assumption) ?_
      rotate_left
      · (intro wx hSw; obtain ⟨x0, x1, x2, x3⟩ := hSw; go_simp; with_reducible rfl)
      simp only [Act.put, List.setIfInBounds_toArray, List.set_cons_zero, List.set_cons_succ]
      refine take_at (i := 8) (v := ?_) rfl (by kernel_rfl) (by kernel_rfl) (by kernel_rfl) (fun _ _ _ h => h) (by rfl) ?_ (by assumption) ?_
      rotate_left
      · (intro wx hSw; obtain ⟨x0, x1, x2, x3⟩ := hSw; go_simp; with_reducible rfl)
      simp only [Act.put, List.setIfInBounds_toArray, List.set_cons_zero, List.set_cons_succ]
      refine take_at (i := 9) (v := ?_) rfl (by kernel_rfl) (by kernel_rfl) (by kernel_rfl) (fun _ _ _ h => h) (by rfl) ?_ (by assumption) ?_
      rotate_left
      · (intro wx hSw; obtain ⟨x0, x1, x2, x3⟩ := hSw; go_simp; with_reducible rfl)
      simp only [Act.put, List.setIfInBounds_toArray, List.set_cons_zero, List.set_cons_succ]
      refine take_at (i := 10) (v := ?_) rfl (by kernel_rfl) (by kernel_rfl) (by kernel_rfl) (fun _ _ _ h => h) (by rfl) ?_ (by assumption) ?_
      rotate_left
      · (intro wx hSw; obtain ⟨x0, x1, x2, x3⟩ := hSw; go_simp; with_reducible rfl)
      simp only [Act.put, List.setIfInBounds_toArray, List.set_cons_zero, List.set_cons_succ]
      refine take_at (i := 11) (v := ?_) rfl (by kernel_rfl) (by kernel_rfl) (by kernel_rfl) (fun _ _ _ h => h) (by rfl) ?_ (by assumption) ?_
      rotate_left
      · (intro wx hSw; obtain ⟨x0, x1, x2, x3⟩ := hSw; go_simp; with_reducible rfl)
      simp only [Act.put, List.setIfInBounds_toArray, List.set_cons_zero, List.set_cons_succ]
      refine take_at (i := 12) (v := ?_) rfl (by kernel_rfl) (by kernel_rfl) (by kernel_rfl) (fun _ _ _ h => h) (by rfl) ?_ (by assumption) ?_
      rotate_left
      · (intro wx hSw; obtain ⟨x0, x1, x2, x3⟩ := hSw; go_simp; with_reducible rfl)
      simp only [Act.put, List.setIfInBounds_toArray, List.set_cons_zero, List.set_cons_succ]
      refine take_at (i := 13) (v := ?_) rfl (by kernel_rfl) (by kernel_rfl) (by kernel_rfl) (fun _ _ _ h => h) (by rfl) ?_ (by assumption) ?_
      rotate_left
      · (intro wx hSw; obtain ⟨x0, x1, x2, x3⟩ := hSw; go_simp; with_reducible rfl)
      simp only [Act.put, List.setIfInBounds_toArray, List.set_cons_zero, List.set_cons_succ]
      refine take_at (i := 14) (v := ?_) rfl (by kernel_rfl) (by kernel_rfl) (by kernel_rfl) (fun _ _ _ h => h) (by rfl) ?_ (by assumption) ?_
      rotate_left
      · (intro wx hSw; obtain ⟨x0, x1, x2, x3⟩ := hSw; go_simp; with_reducible rfl)
      simp only [Act.put, List.setIfInBounds_toArray, List.set_cons_zero, List.set_cons_succ]
      refine take_at (i := 15) (v := ?_) rfl (by kernel_rfl) (by kernel_rfl) (by kernel_rfl) (fun _ _ _ h => h) (by rfl) ?_ (by assumption) ?_
      rotate_left
      · (intro wx hSw; obtain ⟨x0, x1, x2, x3⟩ := hSw; go_simp; with_reducible rfl)
      simp only [Act.put, List.setIfInBounds_toArray, List.set_cons_zero, List.set_cons_succ]
      refine take_at (i := 16) (v := ?_) rfl (by kernel_rfl) (by kernel_rfl) (by kernel_rfl) (fun _ _ _ h => h) (by rfl) ?_ (by assumption) ?_
      rotate_left
      · (intro wx hSw; obtain ⟨x0, x1, x2, x3⟩ := hSw; go_simp; with_reducible rfl)
      simp only [Act.put, List.setIfInBounds_toArray, List.set_cons_zero, List.set_cons_succ]
      refine take_at (i := 17) (v := ?_) rfl (by kernel_rfl) (by kernel_rfl) (by kernel_rfl) (fun _ _ _ h => h) (by rfl) ?_ (by assumption) ?_
      rotate_left
      · (intro wx hSw; obtain ⟨x0, x1, x2, x3⟩ := hSw; go_simp; with_reducible rfl)
      simp only [Act.put, List.setIfInBounds_toArray, List.set_cons_zero, List.set_cons_succ]
      refine take_at (i := 18) (v := ?_) rfl (by kernel_rfl) (by kernel_rfl) (by kernel_rfl) (fun _ _ _ h => h) (by rfl) ?_ (by assumption) ?_
      rotate_left
      · (intro wx hSw; obtain ⟨x0, x1, x2, x3⟩ := hSw; go_simp; with_reducible rfl)
      simp only [Act.put, List.setIfInBounds_toArray, List.set_cons_zero, List.set_cons_succ]
      refine take_at (i := 19) (v := ?_) rfl (by kernel_rfl) (by kernel_rfl) (by kernel_rfl) (fun _ _ _ h => h) (by rfl) ?_ (by assumption) ?_
      rotate_left
      · (intro wx hSw; obtain ⟨x0, x1, x2, x3⟩ := hSw; go_simp; with_reducible rfl)
      simp only [Act.put, List.setIfInBounds_toArray, List.set_cons_zero, List.set_cons_succ]
      refine take_at (i := 20) (v := ?_) rfl (by kernel_rfl) (by kernel_rfl) (by kernel_rfl) (fun _ _ _ h => h) (by rfl) ?_ (by assumption) ?_
      rotate_left
      · (intro wx hSw; obtain ⟨x0, x1, x2, x3⟩ := hSw; go_simp; with_reducible rfl)
      simp only [Act.put, List.setIfInBounds_toArray, List.set_cons_zero, List.set_cons_succ]
      refine take_at (i := 21) (v := ?_) rfl (by kernel_rfl) (by kernel_rfl) (by kernel_rfl) (fun _ _ _ h => h) (by rfl) ?_ (by assumption) ?_
      rotate_left
      · (intro wx hSw; obtain ⟨x0, x1, x2, x3⟩ := hSw; go_simp; with_reducible rfl)
      simp only [Act.put, List.setIfInBounds_toArray, List.set_cons_zero, List.set_cons_succ]
      refine take_at (i := 22) (v := ?_) rfl (by kernel_rfl) (by kernel_rfl) (by kernel_rfl) (fun _ _ _ h => h) (by rfl) ?_ (by assumption) ?_
      rotate_left
      · (intro wx hSw; obtain ⟨x0, x1, x2, x3⟩ := hSw; go_simp; with_reducible rfl)
      simp only [Act.put, List.setIfInBounds_toArray, List.set_cons_zero, List.set_cons_succ]
      refine take_at (i := 23) (v := ?_) rfl (by kernel_rfl) (by kernel_rfl) (by kernel_rfl) (fun _ _ _ h => h) (by rfl) ?_ (by assumption) ?_
      rotate_left
      · (intro wx hSw; obtain ⟨x0, x1, x2, x3⟩ := hSw; go_simp; with_reducible rfl)
      simp only [Act.put, List.setIfInBounds_toArray, List.set_cons_zero, List.set_cons_succ]
      refine only_at (i := 24) rfl (by kernel_rfl) (by rfl) (fun K hK => ?_)
      go_simp
      refine hK.out _ _ (by simp [h2, cl0, k0, k1, World.cell?_alloc_some]) ?_
      clear hK K hHeld
      refine only_at (i := 25) rfl (by kernel_rfl) (by rfl) (fun K hK => ?_)
      refine wp_append_own _ _ _ 86 rfl w1.heap.size 89 i0 (.agg #[.int .i64 0, .int .i64 0]) 2 16 Tryz.underlying86 hi hz0 hz1 hz2 rfl (by omega) u4 j (keyCells acc) rfl (World.ownsRow.alloc (w := wr.drew) hown _) ⟨wr.heap.size, 0, none⟩ 1 1 (keyCells [(cn, ci)]) rfl rfl ?_ (keyCells_one _) (by unfold maxLen; omega) (by omega) (by simp; omega) ?_
      · exact news_key wr.drew _ rfl _ _ _
      intro v' w3 hown3 hgrow _
      have hne : ∀ (y : Nat), y < w1.heap.size → some y ≠ u4.ownBlock := by
        intro y hy e
        have := (hown.lt y e.symm).1
        omega
      have hq : ∀ (y ob : Nat) (z : Value), y < w1.heap.size → wr.cell? ⟨y, ob, none⟩ = some z → w3.cell? ⟨y, ob, none⟩ = some z := fun y ob z hy hz =>
        hgrow.cell (by simp [hz, World.cell?_alloc_some]) (hne y hy)
      have hS3 : w3.cell? ⟨b, 54, none⟩ = some (.slice (some ⟨gk, 0, none⟩) m.keys.length ck) ∧ w3.cell? ⟨gl, j, none⟩ = some (.int .i64 x) ∧ w3.cell? ⟨gk, x * 4, none⟩ = some (.int .i64 cn) ∧ w3.cell? ⟨gk, x * 4 + 1, none⟩ = some (.int .i64 ci) := ⟨hq _ _ _ hbl1 h2, hq _ _ _ hgl cl0, hq _ _ _ hgk1 k0, hq _ _ _ hgk1 k1⟩
      refine hK.out _ _ hS3 ?_
      clear hK K
      simp only [Act.put, List.setIfInBounds_toArray, List.set_cons_zero, List.set_cons_succ]
      refine only_at (i := 26) rfl (by kernel_rfl) (by rfl) (fun K hK => ?_)
      go_simp
      refine hK.out _ _ hS3 ?_
      clear hK K hq hS3
      refine wpAnyH_done (by kernel_rfl) ?_ _
      refine NoPanic.normal ?_
      clear h2 cl0 k0 k1
      go_wp2
      refine ⟨⟨j + 1, by omega, by go_num, ?_, ?_⟩, by simp [intOf]; omega⟩
      · rw [HS.out, List.map_append, HA.out, keyCells_append]
        simp only [List.map_cons, List.map_nil, HC.out]
        exact hown3
      · refine (hb.drew.alloc hbase _).grown hgrow (by simp; omega) ?_
        intro y hy
        exact (hown.lt y hy).1
    · have : j = L.length := by omega
      subst this
      go_wp2
      go_ret
      rw [List.take_length, ← hwt.out] at hown
      exact ⟨_, rfl, own_mono hown hs1, hb1.trans (hb.mono hs1)⟩

end
end Go.Proofs.YtlafkpaljibonaaGreat

namespace Go.Proofs.YtlafkpaljibonaaGreat
open Go.RowKit

def RM.startN (m : RM) : Nat → RM
  | 0 => m
  | n + 1 => cond (!m.set.dyn && decide (6 - m.cnt 0 < m.set.ch)) (m.starts.startN n) m
def RM.startAll (m : RM) : RM := m.startN 6

/-- No worker has started yet. -/
def RM.quiet (m : RM) : Prop := ∀ k, k < 6 → (m.slot k).st = 0 ∨ (m.slot k).st = 1

theorem RM.first_none (m : RM) (st : Int) (h : m.first st = none) (k : Nat) (hk : k < 6) : ((m.slot k).st == st) = false := by
  have gen : ∀ n j, m.fst st j n = none → ∀ k, j ≤ k → k < j + n → ((m.slot k).st == st) = false := by
    intro n
    induction n with
    | zero => intro j _ k h1 h2; omega
    | succ n ih =>
      intro j hj k h1 h2
      simp only [RM.fst] at hj
      cases hc : ((m.slot j).st == st)
      · rw [hc] at hj
        by_cases e : k = j
        · rw [e]; exact hc
        · exact ih (j + 1) hj k (by omega) (by omega)
      · rw [hc] at hj; simp at hj
  exact gen 6 0 h k (Nat.zero_le _) (by omega)

theorem RM.cnt_zero (m : RM) (st : Int) (h : m.first st = none) : m.cnt st = 0 := by
  have := RM.first_none m st h
  simp [RM.cnt, RM.cntTo, this 0, this 1, this 2, this 3, this 4, this 5]

theorem RM.cnt_starts (m : RM) (h : 0 < m.cnt 0) : ∃ k, k < 6 ∧ m.first 0 = some k ∧ m.starts = { m with slot := upd m.slot k startSlot } ∧ m.starts.cnt 0 = m.cnt 0 - 1 := by
  cases hf : m.first 0 with
  | none => rw [RM.cnt_zero m 0 hf] at h; omega
  | some k =>
    obtain ⟨-, hk, hs⟩ := m.fst_some 0 0 6 k hf
    have e : m.starts = { m with slot := upd m.slot k startSlot } := by simp only [RM.starts, hf]
    refine ⟨k, by omega, rfl, e, ?_⟩
    rw [e]
    rcases k with _ | _ | _ | _ | _ | _ | k
    all_goals first | omega | (simp [RM.cnt, RM.cntTo, upd, startSlot, hs]; omega) | (simp [RM.cnt, RM.cntTo, upd, startSlot, hs])

theorem RM.quiet_starts (m : RM) (h : m.quiet) : m.starts.quiet := by
  intro k hk
  unfold RM.starts
  cases m.first 0 with
  | none => exact h k hk
  | some j =>
    by_cases e : k = j
    · subst e; right; simp [startSlot]
    · simp only [upd_other _ _ e]; exact h k hk

theorem RM.quiet_first (m : RM) (h : m.quiet) (st : Int) (h0 : st ≠ 0) (h1 : st ≠ 1) : m.first st = none := by
  cases hf : m.first st with
  | none => rfl
  | some k =>
    obtain ⟨-, hk, hs⟩ := m.fst_some st 0 6 k hf
    rcases h k (by omega) with e | e <;> omega

theorem RM.starts_same (m : RM) : m.starts.set = m.set ∧ m.starts.keys = m.keys ∧ m.starts.queue = m.queue ∧ m.starts.line = m.line ∧ m.starts.time = m.time := by
  unfold RM.starts
  cases m.first 0 <;> simp

theorem RM.wf_quiet {m : RM} (h : m.quiet) (hq : ∀ i ∈ m.queue, i < m.keys.length) (hc : m.set.fits) : m.wf :=
  ⟨hq, fun k hk e => by rcases h k hk with h1 | h1 <;> omega, hc⟩

section
variable {o : Nat → Tag} {q : Nat} {w : World} {b : Nat} {m : RM} {lv : Nat → Value} {kv qv : Value}

set_option maxRecDepth 100000 in
set_option maxHeartbeats 2000000 in
theorem rSettle_quiet (h : RMem o q w b m lv kv qv) (hwf : m.wf) (hqt : m.quiet) (hmax : m.queue.length ≤ 1000000000000) :
    Calls Tryz.prog 32 #[.pointer (some ⟨b, 0, none⟩)] w fun r w' => r = .returned (.tuple #[]) ∧ RMem o q w' b m.startAll lv kv qv ∧ Fr q o w o w' := by
  unfold RM.startAll
  go_enter Tryz.func32, Tryz.ntmps32
  go_wp2_with fail
  refine (count_any h 0).mono ?_
  rintro e w1 ⟨rfl, rfl⟩
  go_wp2_with fail
  go_loopw [2] (fun n w' => ∃ (M : RM) (f : Nat), n = .int .i64 (M.cnt 0) ∧ RMem o q w' b M lv kv qv ∧ Fr q o w1 o w' ∧ m.startN 6 = M.startN f ∧ M.cnt 0 ≤ f ∧ M.set = m.set ∧ M.quiet ∧ M.keys = m.keys ∧ M.queue = m.queue) (fun n _ => (intOf n).toNat)
  case atStart => exact ⟨m, 6, rfl, h, Fr.refl h.clean, rfl, (m.cntTo_bd 0 6).2, rfl, hqt, rfl, rfl⟩
  case round =>
    obtain ⟨M, f, rfl, hM, hfr, hst, hcf, hset, hquiet, hkeys, hqueue⟩ := hrel
    have HST : Hid _ := hst
    have HK : Hid _ := hkeys
    have HQ : Hid _ := hqueue
    clear hst hkeys hqueue
    have hbd := m.cntTo_bd 0 6
    have hbd : 0 ≤ M.cnt 0 ∧ M.cnt 0 ≤ 6 := M.cntTo_bd 0 6
    have cc := hM.chc
    have cd := hM.dync
    have hch := hwf.ch.1
    rw [hset] at cc cd
    have HSET : Hid _ := hset
    clear hset
    cases hd : m.set.dyn with
    | true =>
      have HG : (!m.set.dyn && decide (6 - M.cnt 0 < m.set.ch)) = false := by rw [hd]; rfl
      rw [hd] at cd
      clear hd
      have hfin : Hid (m.startN 6 = M) := by
        have e := HST.out
        have hM2 : M.startN f = M := by
          cases f with
          | zero => rfl
          | succ f => simp only [RM.startN, HSET.out, HG]; rfl
        rw [hM2] at e; exact e
      have hwfM : M.wf := RM.wf_quiet hquiet (by rw [HK.out, HQ.out]; exact hwf.q) (by rw [HSET.out]; exact hwf.ch)
      have hmx : M.queue.length ≤ 1000000000000 := by rw [HQ.out]; exact hmax
      have hf2 : M.first 2 = none := RM.quiet_first M hquiet 2 (by omega) (by omega)
      have hcf2 : Hid (∀ w', RMem o q w' b M lv kv qv → Calls Tryz.prog 70 #[.pointer (some ⟨b, 0, none⟩), .int .i64 2] w' fun r w'' => r = .returned (.int .i64 (-1)) ∧ w'' = w') := fun w' h' => by have := first_slot h' 2; rw [hf2] at this; exact this
      clear hf2
      go_wp2
      refine wp_loop_rounds 1 ?_
      rw [rounds_succ]
      go_wp2_with fail
      refine (rback_any hM hwfM hmx).mono ?_
      rintro e w2 ⟨v, rfl, hv, hb2⟩
      obtain ⟨al, cl, rfl, hln, -⟩ := own_slice hv
      have hM2 := hM.below hb2
      go_wp2_with fail
      refine (hcf2.out _ hM2).mono ?_
      rintro e w3 ⟨rfl, rfl⟩
      by_cases h0 : M.back.length = 0
      · rw [h0] at *
        go_wp2
        exact bodyPost_ret (v := .tuple #[]) (by simp [results, Tryz.results32, go_sem]) rfl ⟨rfl, by rw [hfin.out]; exact hM2, hfr.below hb2⟩
      · go_wp2
        exact bodyPost_ret (v := .tuple #[]) (by simp [results, Tryz.results32, go_sem]) rfl ⟨rfl, by rw [hfin.out]; exact hM2, hfr.below hb2⟩
    | false =>
      rw [hd] at cd
      by_cases hgo : 6 - M.cnt 0 < m.set.ch
      · obtain ⟨k, hk, hf0, hstarts, hcnt⟩ := RM.cnt_starts M (by omega)
        have hs := RM.starts_same M
        have hqs := RM.quiet_starts M hquiet
        have HX : Hid (m.startN 6 = M.starts.startN (f - 1)) := by
          have e := HST.out
          obtain ⟨f', rfl⟩ : ∃ f', f = f' + 1 := ⟨f - 1, by omega⟩
          rw [show M.startN (f' + 1) = cond (!M.set.dyn && decide (6 - M.cnt 0 < M.set.ch)) (M.starts.startN f') M from rfl, HSET.out, hd, decide_eq_true hgo] at e
          exact e
        have HY : Hid (M.starts.set = m.set ∧ M.starts.keys = m.keys ∧ M.starts.queue = m.queue) := ⟨hs.1.trans HSET.out, hs.2.1.trans HK.out, hs.2.2.1.trans HQ.out⟩
        have HC : Hid (M.starts.cnt 0 = M.cnt 0 - 1) := hcnt
        clear hs hstarts hf0 hcnt hd
        go_wp2_with fail
        refine (starts_any hM).mono ?_
        rintro e w2 ⟨rfl, hM2, fr2⟩
        clear cc cd
        go_wp2_with fail
        refine (count_any hM2 0).mono ?_
        rintro e w3 ⟨rfl, rfl⟩
        go_wp2
        have hc := HC.out
        refine ⟨⟨M.starts, f - 1, rfl, hM2, hfr.trans fr2, HX.out, by omega, HY.out.1, hqs, HY.out.2.1, HY.out.2.2⟩, ?_⟩
        simp only [intOf]; omega
      · have HG : (!m.set.dyn && decide (6 - M.cnt 0 < m.set.ch)) = false := by rw [decide_eq_false hgo, Bool.and_false]
        clear hd
        have hfin : Hid (m.startN 6 = M) := by
          have e := HST.out
          have hM2 : M.startN f = M := by
            cases f with
            | zero => rfl
            | succ f => simp only [RM.startN, HSET.out, HG]; rfl
          rw [hM2] at e; exact e
        have hwfM : M.wf := RM.wf_quiet hquiet (by rw [HK.out, HQ.out]; exact hwf.q) (by rw [HSET.out]; exact hwf.ch)
        have hmx : M.queue.length ≤ 1000000000000 := by rw [HQ.out]; exact hmax
        have hf2 : M.first 2 = none := RM.quiet_first M hquiet 2 (by omega) (by omega)
        have hcf2 : Hid (∀ w', RMem o q w' b M lv kv qv → Calls Tryz.prog 70 #[.pointer (some ⟨b, 0, none⟩), .int .i64 2] w' fun r w'' => r = .returned (.int .i64 (-1)) ∧ w'' = w') := fun w' h' => by have := first_slot h' 2; rw [hf2] at this; exact this
        clear hf2
        go_wp2
        refine wp_loop_rounds 1 ?_
        rw [rounds_succ]
        go_wp2_with fail
        refine (rback_any hM hwfM hmx).mono ?_
        rintro e w2 ⟨v, rfl, hv, hb2⟩
        obtain ⟨al, cl, rfl, hln, -⟩ := own_slice hv
        have hM2 := hM.below hb2
        go_wp2_with fail
        refine (hcf2.out _ hM2).mono ?_
        rintro e w3 ⟨rfl, rfl⟩
        by_cases h0 : M.back.length = 0
        · rw [h0] at *
          go_wp2
          exact bodyPost_ret (v := .tuple #[]) (by simp [results, Tryz.results32, go_sem]) rfl ⟨rfl, by rw [hfin.out]; exact hM2, hfr.below hb2⟩
        · go_wp2
          exact bodyPost_ret (v := .tuple #[]) (by simp [results, Tryz.results32, go_sem]) rfl ⟨rfl, by rw [hfin.out]; exact hM2, hfr.below hb2⟩

def rawRM (c : Cfg) : RM := ⟨c, 0, fun _ => ⟨false, ⟨#[]⟩, 0, []⟩, fun _ => ⟨0, 0, 0, false, 0⟩, [], []⟩
def startRM (c : Cfg) : RM := (rawRM c).startAll

theorem RMem.raw (hc : Clean o w) (c : Cfg) :
    RMem (upd o w.heap.size (q, 1)) q (w.alloc (.cells (wcells (rawRM c) nilV (.slice none 0 0) (.slice none 0 0)).toArray 76)) w.heap.size (rawRM c) nilV (.slice none 0 0) (.slice none 0 0) := by
  refine ⟨?_, upd_same _ _ _, Blk.made w _ _, fun k hk => Row.nil _ _ _ _ _, Row.nil _ _ _ _ _, Row.nil _ _ _ _ _⟩
  intro g hg
  have h1 : w.heap.size + 1 ≤ g := by simpa using hg
  rw [upd_other _ _ (by omega)]
  exact hc g (by omega)

theorem rawRM_quiet (c : Cfg) : (rawRM c).quiet := fun _ _ => .inl rfl

theorem cfg_ch {c : Cfg} (h : c.ok = true) : c.ch ≤ 6 := by
  simp only [Cfg.ok, Bool.and_eq_true, decide_eq_true_eq] at h
  exact h.1.1.1.2

theorem cfg_fits {c : Cfg} (h : c.ok = true) : c.fits := by
  refine ⟨cfg_ch h, fun hd => ?_⟩
  simp only [Cfg.ok, hd, Bool.not_true, Bool.false_or, Bool.and_eq_true, decide_eq_true_eq] at h
  omega

set_option maxRecDepth 100000 in
set_option maxHeartbeats 1000000 in
theorem start_any (c : Cfg) (w : World) (ho : Clean o w) (h : c.ok = true) :
    Calls Tryz.prog 16 #[c.val] w fun r w' => ∃ b o', r = .returned (.pointer (some ⟨b, 0, none⟩)) ∧ RMem o' q w' b (startRM c) nilV (.slice none 0 0) (.slice none 0 0) ∧ Fr q o w o' w' := by
  have hch := cfg_fits h
  unfold Cfg.val
  go_enter Tryz.func16, Tryz.ntmps16
  go_wp2_with fail
  have e1 : w.heap.size + 1 = (w.alloc (.cells #[.int .i64 c.ch, .bool c.dyn, .int .i64 c.mn, .int .i64 c.mx, .int .i64 c.mr, .int .i64 c.tmo, .int .i64 c.bl] 23)).heap.size := by simp
  have hb1 : Below w.heap.size w (w.alloc (.cells #[.int .i64 c.ch, .bool c.dyn, .int .i64 c.mn, .int .i64 c.mx, .int .i64 c.mr, .int .i64 c.tmo, .int .i64 c.bl] 23)) := (Below.refl _ _).alloc (Nat.le_refl _) _
  generalize w.alloc (.cells #[.int .i64 c.ch, .bool c.dyn, .int .i64 c.mn, .int .i64 c.mx, .int .i64 c.mr, .int .i64 c.tmo, .int .i64 c.bl] 23) = w1 at *
  rw [e1]
  have ho1 : Clean o w1 := ho.le hb1.size
  have hm0 := RMem.raw (q := q) ho1 c
  have fr0 := (Fr.of_below (q := q) ho hb1).trans (Fr.made (q := q) (w' := w1.alloc (.cells (wcells (rawRM c) nilV (.slice none 0 0) (.slice none 0 0)).toArray 76)) (q, 1) ((Below.refl w1.heap.size w1).alloc (Nat.le_refl _) _) hm0.clean)
  refine (rSettle_quiet hm0 (RM.wf_quiet (rawRM_quiet c) (by intro i hi; cases hi) hch) (rawRM_quiet c) (by simp [rawRM])).mono ?_
  rintro e w2 ⟨rfl, hm2, fr2⟩
  go_wp2
  go_ret
  exact ⟨_, _, rfl, hm2, fr0.trans fr2⟩

end
end Go.Proofs.YtlafkpaljibonaaGreat

namespace Go.Proofs.YtlafkpaljibonaaGreat
open Go.RowKit

section
variable {o : Nat → Tag} {q : Nat} {w : World} {b : Nat} {m : RM} {lv : Nat → Value} {kv qv : Value}

def RM.chk (m : RM) (n : Int) : Int := cond (isC n) (cond (m.line n.toNat).op 0 4) 2

set_option maxRecDepth 100000 in
set_option maxHeartbeats 400000 in
theorem rClosed_any (h : RMem o q w b m lv kv qv) (n : Int) :
    Calls Tryz.prog 80 #[.pointer (some ⟨b, 0, none⟩), .int .i64 n] w fun r w' => r = .returned (.int .i64 (m.chk n)) ∧ w' = w := by
  unfold RM.chk
  rcases isC_cases n with h0 | ⟨h0, k, hk, rfl⟩
  · simp only [h0, cond_false]
    go_enter Tryz.func80, Tryz.ntmps80
    go_wp2_with fail
    refine (rIsConn_any _ _).mono ?_
    rintro e w1 ⟨rfl, rfl⟩
    rw [h0]
    go_wp2
    go_ret
    exact ⟨rfl, rfl⟩
  · simp only [h0, cond_true, Int.toNat_natCast]
    obtain ⟨h1, -⟩ := h.linec hk
    cases hop : (m.line k).op
    all_goals
      rw [hop] at h1
      simp only [cond_true, cond_false]
      clear hop
      go_enter Tryz.func80, Tryz.ntmps80
      go_wp2_with fail
      refine (rIsConn_any _ _).mono ?_
      rintro e w1 ⟨rfl, rfl⟩
      rw [h0]
      go_wp2
      go_ret
      exact ⟨rfl, rfl⟩

def RM.connect (m : RM) (k : Nat) : RM := { m with line := upd m.line k ⟨true, ⟨#[]⟩, 0, []⟩ }
def RM.connectE (m : RM) (n : Int) : Int := cond (isC n) (cond (m.line n.toNat).op 3 0) 2
def RM.afterConnect (m : RM) (n : Int) : RM := cond (isC n && !(m.line n.toNat).op) (m.connect n.toNat) m

theorem wcells_connect (m : RM) (lv : Nat → Value) (kv qv : Value) (k : Nat) (hk : k < 4) :
    ((((wcells m lv kv qv).set (8 + k * 4) (.bool true)).set (8 + k * 4 + 1) (.string ⟨#[]⟩)).set (8 + k * 4 + 2) (.int .i64 0)).set (8 + k * 4 + 3) (.slice none 0 0) = wcells (m.connect k) (upd lv k (.slice none 0 0)) kv qv := by
  rcases k with _ | _ | _ | _ | k <;> first | rfl | omega

theorem RMem.putLine (h : RMem o q w b m lv kv qv) {k : Nat} (hk : k < 4) :
    let w' := (((w.setCell ⟨b, 8 + k * 4, none⟩ (.bool true)).setCell ⟨b, 8 + k * 4 + 1, none⟩ (.string ⟨#[]⟩)).setCell ⟨b, 8 + k * 4 + 2, none⟩ (.int .i64 0)).setCell ⟨b, 8 + k * 4 + 3, none⟩ (.slice none 0 0)
    RMem o q w' b (m.connect k) (upd lv k (.slice none 0 0)) kv qv ∧ Fr q o w o w' := by
  intro w'
  have hoth : ∀ g, g ≠ b → w'.heap[g]? = w.heap[g]? := by
    intro g hg
    simp only [w']
    repeat rw [Below.heap_setCell _ _ _ g (by simpa using hg)]
  have hs : w'.heap.size = w.heap.size := by simp [w', World.setCell]
  have hcl : Clean o w' := h.clean.le (Nat.le_of_eq hs.symm)
  have hm : RMem o q w' b (m.connect k) (upd lv k (.slice none 0 0)) kv qv := by
    refine ⟨hcl, h.tag, ?_, fun j hj => ?_, ?_, ?_⟩
    · rw [← wcells_connect m lv kv qv k hk]
      exact (((h.blk.set _ _).set _ _).set _ _).set _ _
    · by_cases e : j = k
      · subst e
        simp only [RM.connect, upd_same]
        exact Row.nil _ _ _ _ _
      · simp only [RM.connect, upd_other _ _ e]
        exact (h.sent j hj).keep (fun _ _ => rfl) fun g _ hg => hoth g fun e => by rw [e, h.tag] at hg; simp at hg; omega
    · exact h.keys.keep (fun _ _ => rfl) fun g _ hg => hoth g fun e => by rw [e, h.tag] at hg; simp at hg
    · exact h.queue.keep (fun _ _ => rfl) fun g _ hg => hoth g fun e => by rw [e, h.tag] at hg; simp at hg
  exact ⟨hm, ⟨by simp [w', World.setCell], by simp [w', World.setCell], by simp [w', World.setCell], Nat.le_of_eq hs.symm, hcl, fun _ _ => rfl, fun g _ hg => hoth g (by rintro rfl; rw [h.tag] at hg; exact hg rfl)⟩⟩

set_option maxRecDepth 100000 in
set_option maxHeartbeats 1000000 in
theorem rConnect_any (h : RMem o q w b m lv kv qv) (n : Int) :
    Calls Tryz.prog 44 #[.pointer (some ⟨b, 0, none⟩), .int .i64 n] w fun r w' => r = .returned (.int .i64 (m.connectE n)) ∧ ∃ lv', RMem o q w' b (m.afterConnect n) lv' kv qv ∧ Fr q o w o w' := by
  unfold RM.connectE RM.afterConnect
  rcases isC_cases n with h0 | ⟨h0, k, hk, rfl⟩
  · simp only [h0, cond_false, Bool.false_and]
    go_enter Tryz.func44, Tryz.ntmps44
    go_wp2_with fail
    refine (rIsConn_any _ _).mono ?_
    rintro e w1 ⟨rfl, rfl⟩
    rw [h0]
    go_wp2
    go_ret
    exact ⟨rfl, lv, h, Fr.refl h.clean⟩
  · simp only [h0, cond_true, Int.toNat_natCast, Bool.true_and]
    obtain ⟨h1, h2, h3, h4⟩ := h.linec hk
    have fz := h.frozen
    have hform := (h.sent k hk).form
    obtain ⟨asv, csv, hsv, -, -⟩ := hform
    rw [hsv] at h4
    cases hop : (m.line k).op
    · rw [hop] at h1
      simp only [cond_true, cond_false, Bool.not_false]
      clear hop
      go_enter Tryz.func44, Tryz.ntmps44
      go_wp2_with fail
      refine (rIsConn_any _ _).mono ?_
      rintro e w1 ⟨rfl, rfl⟩
      rw [h0]
      go_wp2
      go_ret
      have := h.putLine hk
      exact ⟨rfl, _, this.1, this.2⟩
    · rw [hop] at h1
      simp only [cond_true, cond_false, Bool.not_true]
      clear hop
      go_enter Tryz.func44, Tryz.ntmps44
      go_wp2_with fail
      refine (rIsConn_any _ _).mono ?_
      rintro e w1 ⟨rfl, rfl⟩
      rw [h0]
      go_wp2
      go_ret
      exact ⟨rfl, lv, h, Fr.refl h.clean⟩

def rfindFrom (c i : Int) : List RKey → Nat → Option Nat
  | [], _ => none
  | r :: l, k => cond (r.conn == c && r.id == i && !(r.is == 3)) (some k) (rfindFrom c i l (k + 1))
def RM.find (m : RM) (c i : Int) : Option Nat := rfindFrom c i m.keys 0
end
end Go.Proofs.YtlafkpaljibonaaGreat

namespace Go.Proofs.YtlafkpaljibonaaGreat
open Go.RowKit

theorem rfindFrom_drop (c i : Int) (l : List RKey) (k : Nat) (hk : k < l.length) : rfindFrom c i (l.drop k) k = cond (l[k].conn == c && l[k].id == i && !(l[k].is == 3)) (some k) (rfindFrom c i (l.drop (k + 1)) (k + 1)) := by
  rw [List.drop_eq_getElem_cons hk]; rfl

def heldL (c : Int) : List RKey → Int
  | [] => 0
  | r :: l => cond (r.conn == c && !(r.is == 3)) 1 0 + heldL c l
def RM.held (m : RM) (c : Int) : Int := heldL c m.keys

theorem heldL_append (c : Int) (a b : List RKey) : heldL c (a ++ b) = heldL c a + heldL c b := by
  induction a with
  | nil => simp [heldL]
  | cons r a ih => simp only [List.cons_append, heldL, ih]; omega
theorem heldL_bd (c : Int) (a : List RKey) : 0 ≤ heldL c a ∧ heldL c a ≤ a.length := by
  induction a with
  | nil => simp [heldL]
  | cons r a ih => simp only [heldL, List.length_cons]; cases (r.conn == c && !(r.is == 3)) <;> simp <;> omega

section
variable {o : Nat → Tag} {q : Nat} {w : World} {b : Nat} {m : RM} {lv : Nat → Value} {kv qv : Value}

set_option maxRecDepth 100000 in
set_option maxHeartbeats 2000000 in
theorem rFind_any (h : RMem o q w b m lv kv qv) (c i : Int) :
    Calls Tryz.prog 84 #[.pointer (some ⟨b, 0, none⟩), .int .i64 c, .int .i64 i] w fun r w' => r = .returned (.int .i64 (plcI (m.find c i))) ∧ w' = w := by
  obtain ⟨ak, ck, rfl, hkn, hkrow⟩ := h.klist
  have h2 := h.keysv
  go_enter Tryz.func84, Tryz.ntmps84
  go_wp2
  go_loopw [7] (fun j w' => ∃ k : Nat, k ≤ m.keys.length ∧ m.find c i = rfindFrom c i (m.keys.drop k) k ∧ j = .int .i64 k ∧ w' = w) (fun j _ => m.keys.length - (intOf j).toNat)
  case atStart => exact ⟨0, by omega, rfl, rfl, rfl⟩
  case round =>
    obtain ⟨k, hk, hf, rfl, hw⟩ := hrel
    subst hw
    have HF : Hid _ := hf
    clear hf
    by_cases hlt : k < m.keys.length
    · obtain ⟨g, rfl, hg, -, -, -, c0, c1, c2, c3⟩ := hkrow k hlt
      have HS : Hid _ := rfindFrom_drop c i m.keys k hlt
      clear hkrow
      generalize m.keys[k] = r at *
      obtain ⟨rc, ri, rb, rs⟩ := r
      simp only at c0 c1 c2 c3
      by_cases h1 : rc = c
      · subst h1
        by_cases h2 : ri = i
        · subst h2
          by_cases h3 : rs = 3
          · subst h3
            go_wp2
            refine ⟨⟨k + 1, by omega, ?_, by go_num, by first | rfl | trivial⟩, by simp [intOf]; omega⟩
            rw [HF.out, HS.out]; simp
          · have h3' : (rs == 3) = false := by simpa using h3
            go_wp2
            go_ret
            refine ⟨?_, by first | rfl | trivial⟩
            rw [HF.out, HS.out]; simp [h3', plcI]
        · have h2' : (ri == i) = false := by simpa using h2
          go_wp2
          refine ⟨⟨k + 1, by omega, ?_, by go_num, by first | rfl | trivial⟩, by simp [intOf]; omega⟩
          rw [HF.out, HS.out]; simp [h2']
      · have h1' : (rc == c) = false := by simpa using h1
        go_wp2
        refine ⟨⟨k + 1, by omega, ?_, by go_num, by first | rfl | trivial⟩, by simp [intOf]; omega⟩
        rw [HF.out, HS.out]; simp [h1']
    · have : k = m.keys.length := by omega
      go_wp2
      go_ret
      refine ⟨?_, by first | rfl | trivial⟩
      rw [HF.out, this]; simp [rfindFrom, plcI]

set_option maxRecDepth 100000 in
set_option maxHeartbeats 2000000 in
theorem rHeld_any (h : RMem o q w b m lv kv qv) (c : Int) :
    Calls Tryz.prog 122 #[.pointer (some ⟨b, 0, none⟩), .int .i64 c] w fun r w' => r = .returned (.int .i64 (m.held c)) ∧ w' = w := by
  obtain ⟨ak, ck, rfl, hkn, hkrow⟩ := h.klist
  have h2 := h.keysv
  unfold RM.held
  go_enter Tryz.func122, Tryz.ntmps122
  go_wp2
  go_loopw [5, 6] (fun n j w' => ∃ k : Nat, k ≤ m.keys.length ∧ n = .int .i64 (heldL c (m.keys.take k)) ∧ j = .int .i64 k ∧ w' = w) (fun _ j _ => m.keys.length - (intOf j).toNat)
  case atStart => exact ⟨0, by omega, rfl, rfl, rfl⟩
  case round =>
    obtain ⟨k, hk, rfl, rfl, hw⟩ := hrel
    subst hw
    by_cases hlt : k < m.keys.length
    · obtain ⟨g, rfl, hg, -, -, -, c0, c1, c2, c3⟩ := hkrow k hlt
      have hst : m.keys.take (k + 1) = m.keys.take k ++ [m.keys[k]] := List.take_succ_eq_append_getElem hlt
      have HS : Hid (heldL c (m.keys.take (k + 1)) = heldL c (m.keys.take k) + cond (m.keys[k].conn == c && !(m.keys[k].is == 3)) 1 0) := by
        show _ = _
        rw [hst, heldL_append]; simp [heldL]
      have hbd := heldL_bd c (m.keys.take k)
      rw [List.length_take] at hbd
      clear hkrow hst
      generalize m.keys[k] = r at *
      obtain ⟨rc, ri, rb, rs⟩ := r
      simp only at c0 c1 c2 c3 HS
      by_cases h1 : rc = c
      · subst h1
        by_cases h3 : rs = 3
        · subst h3
          go_wp2
          refine ⟨⟨k + 1, by omega, ?_, by go_num, by first | rfl | trivial⟩, by simp [intOf]; omega⟩
          rw [HS.out]; simp
        · have h3' : (rs == 3) = false := by simpa using h3
          go_wp2
          refine ⟨⟨k + 1, by omega, ?_, by go_num, by first | rfl | trivial⟩, by simp [intOf]; omega⟩
          rw [HS.out]; simp [h3']
      · have h1' : (rc == c) = false := by simpa using h1
        go_wp2
        refine ⟨⟨k + 1, by omega, ?_, by go_num, by first | rfl | trivial⟩, by simp [intOf]; omega⟩
        rw [HS.out]; simp [h1']
    · have : k = m.keys.length := by omega
      go_wp2
      go_ret
      refine ⟨?_, by first | rfl | trivial⟩
      rw [this, List.take_length]; rfl

theorem rkeyCells_is (l : List RKey) (a : Nat) (ha : a < l.length) (x : Int) : rkeyCells (l.set a { l[a] with is := x }) = (rkeyCells l).set (a * 4 + 3) (.int .i64 x) := by
  induction l generalizing a with
  | nil => simp at ha
  | cons r l ih =>
    have e : ∀ (r : RKey) l, rkeyCells (r :: l) = .int .i64 r.conn :: .int .i64 r.id :: .string r.body :: .int .i64 r.is :: rkeyCells l := by intro r l; simp [rkeyCells, RKey.cells]
    cases a with
    | zero => simp [e]
    | succ a =>
      have := ih a (by simpa using ha)
      rw [show (a + 1) * 4 + 3 = a * 4 + 3 + 1 + 1 + 1 + 1 from by omega]
      simp [e, this]

theorem rkeyCells_body (l : List RKey) (a : Nat) (ha : a < l.length) (x : ByteArray) : rkeyCells (l.set a { l[a] with body := x }) = (rkeyCells l).set (a * 4 + 2) (.string x) := by
  induction l generalizing a with
  | nil => simp at ha
  | cons r l ih =>
    have e : ∀ (r : RKey) l, rkeyCells (r :: l) = .int .i64 r.conn :: .int .i64 r.id :: .string r.body :: .int .i64 r.is :: rkeyCells l := by intro r l; simp [rkeyCells, RKey.cells]
    cases a with
    | zero => simp [e]
    | succ a =>
      have := ih a (by simpa using ha)
      rw [show (a + 1) * 4 + 2 = a * 4 + 2 + 1 + 1 + 1 + 1 from by omega]
      simp [e, this]

/-- A cell of the list of keys is written. -/
theorem RMem.setKey {g c n : Nat} (h : RMem o q w b m lv (.slice (some ⟨g, 0, none⟩) n c) qv) (hn : n = m.keys.length) (j : Nat) (u : Value) (l : List RKey) (hl : l.length = m.keys.length) (hc : rkeyCells l = (rkeyCells m.keys).set j u) :
    RMem o q (w.setCell ⟨g, j, none⟩ u) b { m with keys := l } lv (.slice (some ⟨g, 0, none⟩) n c) qv ∧ Fr q o w o (w.setCell ⟨g, j, none⟩ u) := by
  subst hn
  obtain ⟨h1, h2⟩ := h.keys
  have hgo : o g = (q, 6) := h2 g rfl
  have hgb : b ≠ g := by rintro rfl; rw [h.tag] at hgo; simp at hgo
  obtain ⟨k1, k2⟩ := h1.stored j u
  have hs : (w.setCell ⟨g, j, none⟩ u).heap.size = w.heap.size := by simp [World.setCell]
  have hcl : Clean o (w.setCell ⟨g, j, none⟩ u) := h.clean.le (Nat.le_of_eq hs.symm)
  have hcon : wcells { m with keys := l } lv (.slice (some ⟨g, 0, none⟩) m.keys.length c) qv = wcells m lv (.slice (some ⟨g, 0, none⟩) m.keys.length c) qv := rfl
  refine ⟨⟨hcl, h.tag, ?_, fun k hk => ?_, ?_, ?_⟩, ⟨k2.os, k2.tape, k2.output, k2.size, hcl, fun _ _ => rfl, fun x hx hq => k2.block x hx ?_⟩⟩
  · rw [hcon]; exact h.blk.keep (Below.heap_setCell _ _ _ b hgb)
  · refine (h.sent k hk).keep (fun _ _ => rfl) fun x _ hx => Below.heap_setCell _ _ _ x ?_
    rintro rfl; rw [hgo] at hx; simp at hx; omega
  · show Row _ _ _ _ _ _ l.length (rkeyCells l)
    rw [hl, hc]; exact ⟨k1, h2⟩
  · refine h.queue.keep (fun _ _ => rfl) fun x _ hx => Below.heap_setCell _ _ _ x ?_
    rintro rfl; rw [hgo] at hx; simp at hx
  · rintro e
    simp only [Option.some.injEq] at e
    subst e
    rw [hgo] at hq; exact hq rfl
end
end Go.Proofs.YtlafkpaljibonaaGreat

namespace Go.Proofs.YtlafkpaljibonaaGreat
open Go.RowKit

def overIf (c : Int) (r : RKey) : RKey := cond (r.conn == c) { r with is := 3 } r
def RM.close (m : RM) (k : Nat) : RM := { m with line := upd m.line k { m.line k with op := false }, keys := m.keys.map (overIf k) }
def RM.overTo (m : RM) (k n : Nat) : RM := { m with line := upd m.line k { m.line k with op := false }, keys := (m.keys.take n).map (overIf k) ++ m.keys.drop n }

theorem overTo_len (m : RM) (k n : Nat) (hn : n ≤ m.keys.length) : (m.overTo k n).keys.length = m.keys.length := by
  simp only [RM.overTo, List.length_append, List.length_map, List.length_take, List.length_drop]; omega

theorem overTo_get (m : RM) (k n : Nat) (hn : n < m.keys.length) (h : n < (m.overTo k n).keys.length) : (m.overTo k n).keys[n] = m.keys[n] := by
  have e : ((m.keys.take n).map (overIf k)).length = n := by simp only [List.length_map, List.length_take]; omega
  have e3 : (m.overTo k n).keys[n]? = some m.keys[n] := by
    simp only [RM.overTo]
    rw [List.getElem?_append_right (by omega), e, Nat.sub_self, List.getElem?_drop, Nat.add_zero, List.getElem?_eq_getElem hn]
  rw [List.getElem?_eq_getElem h] at e3
  exact Option.some.inj e3

theorem overTo_succ_same (m : RM) (k n : Nat) (hn : n < m.keys.length) (h : (m.keys[n].conn == (k : Int)) = false) : m.overTo k (n + 1) = m.overTo k n := by
  simp only [RM.overTo, RM.mk.injEq, true_and, and_true]
  rw [List.take_succ_eq_append_getElem hn, List.map_append, List.drop_eq_getElem_cons hn]
  simp [overIf, h]

theorem overTo_succ_set (m : RM) (k n : Nat) (hn : n < m.keys.length) (h : (m.keys[n].conn == (k : Int)) = true) :
    m.overTo k (n + 1) = { m.overTo k n with keys := (m.overTo k n).keys.set n { m.keys[n] with is := 3 } } := by
  have e : ((m.keys.take n).map (overIf k)).length = n := by simp only [List.length_map, List.length_take]; omega
  simp only [RM.overTo, RM.mk.injEq, true_and, and_true]
  rw [List.take_succ_eq_append_getElem hn, List.map_append, List.set_append_right _ _ (by omega), e, Nat.sub_self]
  have e2 : (List.drop n m.keys).set 0 { m.keys[n] with is := 3 } = { m.keys[n] with is := 3 } :: List.drop (n + 1) m.keys := by
    rw [List.drop_eq_getElem_cons hn]; rfl
  rw [e2]
  simp [overIf, h]

section
variable {o : Nat → Tag} {q : Nat} {w : World} {b : Nat} {m : RM} {lv : Nat → Value} {kv qv : Value}

theorem wcells_shut (m : RM) (lv : Nat → Value) (kv qv : Value) (k : Nat) (hk : k < 4) :
    (wcells m lv kv qv).set (8 + k * 4) (.bool false) = wcells (m.overTo k 0) lv kv qv := by
  rcases k with _ | _ | _ | _ | k <;> first | rfl | omega

set_option maxRecDepth 100000 in
set_option maxHeartbeats 2000000 in
theorem rClose_any (h : RMem o q w b m lv kv qv) (k : Nat) (hk : k < 4) :
    Calls Tryz.prog 81 #[.pointer (some ⟨b, 0, none⟩), .int .i64 k] w fun r w' => r = .returned (.tuple #[]) ∧ RMem o q w' b (m.close k) lv kv qv ∧ Fr q o w o w' := by
  obtain ⟨h1, -⟩ := h.linec hk
  have fz := h.frozen
  have hoth : ∀ x, x ≠ b → (w.setCell ⟨b, 8 + k * 4, none⟩ (.bool false)).heap[x]? = w.heap[x]? := fun x hx => Below.heap_setCell _ _ _ x hx
  have hbk := h.blk.set (8 + k * 4) (.bool false)
  rw [wcells_shut m lv kv qv k hk] at hbk
  have hsent : ∀ j, j < 4 → ((m.overTo k 0).line j).sent = (m.line j).sent := by
    intro j _
    simp only [RM.overTo, upd]
    split
    · rename_i e; rw [e]
    · rfl
  have hm1 := h.put hbk (by simp [World.setCell]) hoth hsent (by simp [RM.overTo]) rfl
  have fr1 := h.fr_put hm1 (by simp [World.setCell]) (by simp [World.setCell]) (by simp [World.setCell]) (by simp [World.setCell]) hoth
  have hfin : Hid (m.overTo k m.keys.length = m.close k) := by show _ = _; simp [RM.overTo, RM.close]
  obtain ⟨ak, ck, rfl, hkn, -⟩ := h.klist
  clear hbk hsent hoth
  go_enter Tryz.func81, Tryz.ntmps81
  go_wp2
  generalize w.setCell ⟨b, 8 + k * 4, none⟩ (.bool false) = w0 at *
  go_loopw [4] (fun i w' => ∃ n : Nat, n ≤ m.keys.length ∧ i = .int .i64 n ∧ RMem o q w' b (m.overTo k n) lv (.slice ak m.keys.length ck) qv ∧ Fr q o w o w') (fun i _ => m.keys.length - (intOf i).toNat)
  case atStart => exact ⟨0, by omega, rfl, hm1, fr1⟩
  case round =>
    clear h1 fz
    obtain ⟨n, hn, rfl, hm, hfr⟩ := hrel
    have z0 := hm.keysv
    have hlen := overTo_len m k n hn
    by_cases hlt : n < m.keys.length
    · obtain ⟨ak', ck', e, -, hrow⟩ := hm.klist
      rw [hlen] at e
      simp only [Value.slice.injEq, true_and] at e
      obtain ⟨rfl, rfl⟩ := e
      obtain ⟨g, rfl, hg, hgb, -, fg, c0, c1, c2, c3⟩ := hrow n (by omega)
      have hget := overTo_get m k n hlt (by omega)
      rw [hget] at c0 c1 c2 c3
      have hltI : (n : Int) < m.keys.length := by omega
      clear hrow
      by_cases hc : m.keys[n].conn = (k : Int)
      · have HS : Hid _ := overTo_succ_set m k n hlt (by simpa using hc)
        have hcells := rkeyCells_is (m.overTo k n).keys n (by omega) 3
        rw [hget] at hcells
        obtain ⟨hm2, fr2⟩ := hm.setKey hlen.symm (n * 4 + 3) (.int .i64 3) _ (by simp) hcells
        rw [hc] at c0
        clear hcells hget hc
        go_wp2
        refine ⟨⟨n + 1, by omega, by go_num, ?_, hfr.trans fr2⟩, by simp [intOf]; omega⟩
        rw [HS.out]; exact hm2
      · have HS : Hid _ := overTo_succ_same m k n hlt (by simpa using hc)
        have hc' : (m.keys[n].conn == (k : Int)) = false := by simpa using hc
        clear hget
        go_wp2
        refine ⟨⟨n + 1, by omega, by go_num, ?_, hfr⟩, by simp [intOf]; omega⟩
        rw [HS.out]; exact hm
    · have hne : n = m.keys.length := by omega
      have hm' : RMem o q wr b (m.close k) lv (.slice ak m.keys.length ck) qv := by rw [← hfin.out]; rw [hne] at hm; exact hm
      clear hne
      go_wp2
      exact bodyPost_end (v := .tuple #[]) (by simp [results, Tryz.results81, go_sem]) rfl ⟨rfl, hm', hfr⟩

def RM.afterHangup (m : RM) (n : Int) : RM := cond (m.chk n == 0) (m.close n.toNat) m

set_option maxRecDepth 100000 in
set_option maxHeartbeats 1000000 in
theorem rHangup_any (h : RMem o q w b m lv kv qv) (n : Int) :
    Calls Tryz.prog 46 #[.pointer (some ⟨b, 0, none⟩), .int .i64 n] w fun r w' => r = .returned (.int .i64 (m.chk n)) ∧ RMem o q w' b (m.afterHangup n) lv kv qv ∧ Fr q o w o w' := by
  have k1 : Hid (∀ w', RMem o q w' b m lv kv qv → Calls Tryz.prog 80 #[.pointer (some ⟨b, 0, none⟩), .int .i64 n] w' fun r w'' => r = .returned (.int .i64 (m.chk n)) ∧ w'' = w') := fun w' h' => rClosed_any h' n
  unfold RM.afterHangup
  by_cases he : m.chk n = 0
  · have : ∃ k : Nat, k < 4 ∧ n = k := by
      rcases isC_cases n with h0 | ⟨h0, k, hk, e⟩
      · simp [RM.chk, h0] at he
      · exact ⟨k, hk, e⟩
    rw [he] at k1
    rw [he]
    simp only [beq_self_eq_true, cond_true]
    obtain ⟨k, hk, rfl⟩ := this
    simp only [Int.toNat_natCast]
    clear he
    go_enter Tryz.func46, Tryz.ntmps46
    go_wp2_with fail
    refine (k1.out _ h).mono ?_
    rintro e w1 ⟨rfl, rfl⟩
    go_wp2_with fail
    refine (rClose_any h k hk).mono ?_
    rintro e w2 ⟨rfl, hm, fr⟩
    go_wp2
    go_ret
    exact ⟨rfl, hm, fr⟩
  · have he2 : (m.chk n == 0) = false := by simpa using he
    simp only [he2, cond_false]
    generalize m.chk n = E at *
    go_enter Tryz.func46, Tryz.ntmps46
    go_wp2_with fail
    refine (k1.out _ h).mono ?_
    rintro e w1 ⟨rfl, rfl⟩
    go_wp2
    go_ret
    exact ⟨rfl, h, Fr.refl h.clean⟩
end
end Go.Proofs.YtlafkpaljibonaaGreat

namespace Go.Proofs.YtlafkpaljibonaaGreat
open Go.RowKit

theorem info23 : (Tryz.prog.info? 102).map (fun i => (i.zero, i.size, i.bytes)) = some (some (.agg #[.int .i64 0, .int .i64 0, .string ⟨#[]⟩]), 3, 32) := by kernel_rfl

theorem news_rec (W : World) (g : Nat) (hg : W.heap.size = g) (r : Rec) (T : TypeId) : ∀ j u, (rcells r)[j]? = some u → (W.alloc (.cells #[.int .i64 r.1, .int .i64 r.2.1, .string r.2.2] T)).cell? ((⟨g, 0, none⟩ : Addr).add j) = some u := by
  subst hg
  exact World.news_of_block (heap_alloc_new W _)

theorem one_rec (r : Rec) : ∀ u ∈ rcells r, u.oneCell' = true := by
  intro u hu
  simp only [rcells, List.mem_cons, List.not_mem_nil, or_false] at hu
  rcases hu with rfl | rfl | rfl <;> rfl



end Go.Proofs.YtlafkpaljibonaaGreat
