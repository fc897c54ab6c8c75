import Derived.Test.YtlafkpaljibonaaGreatR4
import Derived.Test.YtlafkpaljibonaaGreatTakes
namespace Go.Proofs.YtlafkpaljibonaaGreat
open Go.RowKit

def RM.waits (m : RM) : List (Int × Int) := m.back.map fun i => ((m.key i).conn, (m.key i).id)

theorem RM.back_lt {m : RM} (hwf : m.wf) {i : Nat} (h : i ∈ m.back) : i < m.keys.length := hwf.q i (List.mem_filter.1 h).1
theorem RM.back_len (m : RM) : m.back.length ≤ m.queue.length := List.length_filter_le _ _

section
variable {o : Nat → Tag} {q : Nat} {w : World} {b : Nat} {m : RM} {lv : Nat → Value} {kv qv : Value}

set_option maxRecDepth 100000 in
set_option maxHeartbeats 2000000 in
theorem rBacklog_any (h : RMem o q w b m lv kv qv) (hwf : m.wf) (hmax : m.queue.length ≤ 1000000000000) :
    Calls Tryz.prog 42 #[.pointer (some ⟨b, 0, none⟩)] w fun r w' => ∃ v, r = .returned v ∧ w'.ownsRow w.heap.size 89 2 v m.waits.length (keyCells m.waits) ∧ Below w.heap.size w w' := by
  obtain ⟨i0, hi, hz0, hz1, hz2⟩ := info_parts infoKey
  obtain ⟨ak, ck, rfl, hkn, hkrow⟩ := h.klist
  have h2 := h.keysv
  have hbl := h.blk.lt
  have hbk := m.back_len
  have hmem := fun {i} (hi : i ∈ m.back) => RM.back_lt hwf hi
  have hwt : Hid (m.waits = m.back.map fun i => ((m.key i).conn, (m.key i).id)) := rfl
  have hwl : m.waits.length = m.back.length := by simp [RM.waits]
  have hcall : Hid (Calls Tryz.prog 69 #[.pointer (some ⟨b, 0, none⟩)] w fun r w' => ∃ v, r = .returned v ∧ w'.ownsRow w.heap.size 3 1 v m.back.length (numCells m.back) ∧ Below w.heap.size w w') := rback_any h hwf hmax
  rw [hwl]
  clear hwl
  generalize m.waits = WT at *
  generalize m.back = L at *
  go_enter Tryz.func42, Tryz.ntmps42
  go_wp2_with fail
  refine hcall.out.mono ?_
  rintro e w1 ⟨v, rfl, hv, hb1⟩
  obtain ⟨al, cl, rfl, hln, hl0⟩ := own_slice hv
  rw [← hb1.cell (by exact hbl)] at h2
  have hbl1 : b < w1.heap.size := Nat.lt_of_lt_of_le hbl hb1.size
  have hs1 := hb1.size
  clear hbl hcall
  go_wp2
  go_loopw [4, 5] (fun u i w' => ∃ j : Nat, j ≤ L.length ∧ i = .int .i64 j ∧ w'.ownsRow w1.heap.size 89 2 u j (keyCells ((L.take j).map fun i => ((m.key i).conn, (m.key i).id))) ∧ Below w1.heap.size w1 w') (fun _ i _ => L.length - (intOf i).toNat)
  case atStart => exact ⟨0, by omega, rfl, World.ownsRow_nil _ _ _ _, Below.refl _ _⟩
  case round =>
    obtain ⟨j, hj, rfl, hown, hb⟩ := hrel
    have hbase := hb.size
    by_cases hlt : j < L.length
    · obtain ⟨gl, rfl, hgl0, hgl⟩ := hl0 (by omega)
      have hx := hmem (List.getElem_mem hlt)
      obtain ⟨gk, rfl, hgk, -, -, -, k0, k1, -, -⟩ := hkrow _ hx
      have cl0 := hv.cellAt j (by omega)
      have hst := List.take_succ_eq_append_getElem hlt
      have HS : Hid _ := hst
      rw [← m.key_eq hx] at k0 k1
      rw [← hb1.cell (by exact hgk)] at k0 k1
      have hgk1 : gk < w1.heap.size := Nat.lt_of_lt_of_le hgk hs1
      rw [← hb.cell (by exact hgk1)] at k0 k1
      rw [← hb.cell (by exact hgl)] at cl0
      rw [← hb.cell (by exact hbl1)] at h2
      have e0 : (numCells L)[j]? = some (.int .i64 (L[j] : Nat)) := by simp [numCells, List.getElem?_map, List.getElem?_eq_getElem hlt]
      rw [e0] at cl0
      clear hst e0 hkrow hmem hv hgl0
      generalize hacc : (List.take j L).map (fun i => ((m.key i).conn, (m.key i).id)) = acc at *
      have HA : Hid _ := hacc
      have hal : acc.length = j := by rw [← hacc, List.length_map, List.length_take]; omega
      clear hacc
      generalize L[j] = x at *
      generalize hcn : (m.key x).conn = cn at *
      generalize hci : (m.key x).id = ci at *
      have HC : Hid (((m.key x).conn, (m.key x).id) = (cn, ci)) := by show _ = _; rw [hcn, hci]
      clear hcn hci
      go_wp2_with fail
      refine wp_region_noPanic ?_
      refine wp_region_held_drew (S := fun w' => w'.cell? ⟨b, 54, none⟩ = some (.slice (some ⟨gk, 0, none⟩) m.keys.length ck) ∧ w'.cell? ⟨gl, j, none⟩ = some (.int .i64 x) ∧ w'.cell? ⟨gk, x * 4, none⟩ = some (.int .i64 cn) ∧ w'.cell? ⟨gk, x * 4 + 1, none⟩ = some (.int .i64 ci)) (by kernel_rfl) ⟨h2, cl0, k0, k1⟩ (fun hHeld => ?_)
      refine take_at (i := 0) (v := ?_) rfl (by kernel_rfl) (by kernel_rfl) (by kernel_rfl) (fun _ _ _ h => h) (by rfl) ?_ (by assumption) ?_
      rotate_left
      · (intro wx hSw; obtain ⟨x0, x1, x2, x3⟩ := hSw; go_simp; with_reducible rfl)
      simp only [Act.put, List.setIfInBounds_toArray, List.set_cons_zero, List.set_cons_succ]
      refine take_at (i := 1) (v := ?_) rfl (by kernel_rfl) (by kernel_rfl) (by kernel_rfl) (fun _ _ _ h => h) (by rfl) ?_ (by assumption) ?_
      rotate_left
      · (intro wx hSw; obtain ⟨x0, x1, x2, x3⟩ := hSw; go_simp; with_reducible rfl)
      simp only [Act.put, List.setIfInBounds_toArray, List.set_cons_zero, List.set_cons_succ]
      refine take_at (i := 2) (v := ?_) rfl (by kernel_rfl) (by kernel_rfl) (by kernel_rfl) (fun _ _ _ h => h) (by rfl) ?_ (by assumption) ?_
      rotate_left
      · (intro wx hSw; obtain ⟨x0, x1, x2, x3⟩ := hSw; go_simp; with_reducible rfl)
      simp only [Act.put, List.setIfInBounds_toArray, List.set_cons_zero, List.set_cons_succ]
      refine take_at (i := 3) (v := ?_) rfl (by kernel_rfl) (by kernel_rfl) (by kernel_rfl) (fun _ _ _ h => h) (by rfl) ?_ (by assumption) ?_
      rotate_left
      · (intro wx hSw; obtain ⟨x0, x1, x2, x3⟩ := hSw; go_simp; with_reducible rfl)
      simp only [Act.put, List.setIfInBounds_toArray, List.set_cons_zero, List.set_cons_succ]
      refine take_at (i := 4) (v := ?_) rfl (by kernel_rfl) (by kernel_rfl) (by kernel_rfl) (fun _ _ _ h => h) (by rfl) ?_ (by assumption) ?_
      rotate_left
      · (intro wx hSw; obtain ⟨x0, x1, x2, x3⟩ := hSw; go_simp; with_reducible rfl)
      simp only [Act.put, List.setIfInBounds_toArray, List.set_cons_zero, List.set_cons_succ]
      refine take_at (i := 5) (v := ?_) rfl (by kernel_rfl) (by kernel_rfl) (by kernel_rfl) (fun _ _ _ h => h) (by rfl) ?_ (by assumption) ?_
      rotate_left
      · (intro wx hSw; obtain ⟨x0, x1, x2, x3⟩ := hSw; go_simp; with_reducible rfl)
      simp only [Act.put, List.setIfInBounds_toArray, List.set_cons_zero, List.set_cons_succ]
      refine take_at (i := 6) (v := ?_) rfl (by kernel_rfl) (by kernel_rfl) (by kernel_rfl) (fun _ _ _ h => h) (by rfl) ?_ (by assumption) ?_
      rotate_left
      · (intro wx hSw; obtain ⟨x0, x1, x2, x3⟩ := hSw; go_simp; with_reducible rfl)
      simp only [Act.put, List.setIfInBounds_toArray, List.set_cons_zero, List.set_cons_succ]
      refine take_at (i := 7) (v := ?_) rfl (by kernel_rfl) (by kernel_rfl) (by kernel_rfl) (fun _ _ _ h => h) (by rfl) ?_ (by assumption) ?_
      rotate_left
      · (intro wx hSw; obtain ⟨x0, x1, x2, x3⟩ := hSw; go_simp; with_reducible rfl)
      simp only [Act.put, List.setIfInBounds_toArray, List.set_cons_zero, List.set_cons_succ]
      refine take_at (i := 8) (v := ?_) rfl (by kernel_rfl) (by kernel_rfl) (by kernel_rfl) (fun _ _ _ h => h) (by rfl) ?_ (by assumption) ?_
      rotate_left
      · (intro wx hSw; obtain ⟨x0, x1, x2, x3⟩ := hSw; go_simp; with_reducible rfl)
      simp only [Act.put, List.setIfInBounds_toArray, List.set_cons_zero, List.set_cons_succ]
      refine take_at (i := 9) (v := ?_) rfl (by kernel_rfl) (by kernel_rfl) (by kernel_rfl) (fun _ _ _ h => h) (by rfl) ?_ (by assumption) ?_
      rotate_left
      · (intro wx hSw; obtain ⟨x0, x1, x2, x3⟩ := hSw; go_simp; with_reducible rfl)
      simp only [Act.put, List.setIfInBounds_toArray, List.set_cons_zero, List.set_cons_succ]
      refine take_at (i := 10) (v := ?_) rfl (by kernel_rfl) (by kernel_rfl) (by kernel_rfl) (fun _ _ _ h => h) (by rfl) ?_ (by assumption) ?_
      rotate_left
      · (intro wx hSw; obtain ⟨x0, x1, x2, x3⟩ := hSw; go_simp; with_reducible rfl)
      simp only [Act.put, List.setIfInBounds_toArray, List.set_cons_zero, List.set_cons_succ]
      refine take_at (i := 11) (v := ?_) rfl (by kernel_rfl) (by kernel_rfl) (by kernel_rfl) (fun _ _ _ h => h) (by rfl) ?_ (by assumption) ?_
      rotate_left
      · (intro wx hSw; obtain ⟨x0, x1, x2, x3⟩ := hSw; go_simp; with_reducible rfl)
      simp only [Act.put, List.setIfInBounds_toArray, List.set_cons_zero, List.set_cons_succ]
      refine take_at (i := 12) (v := ?_) rfl (by kernel_rfl) (by kernel_rfl) (by kernel_rfl) (fun _ _ _ h => h) (by rfl) ?_ (by assumption) ?_
      rotate_left
      · (intro wx hSw; obtain ⟨x0, x1, x2, x3⟩ := hSw; go_simp; with_reducible rfl)
      simp only [Act.put, List.setIfInBounds_toArray, List.set_cons_zero, List.set_cons_succ]
      refine take_at (i := 13) (v := ?_) rfl (by kernel_rfl) (by kernel_rfl) (by kernel_rfl) (fun _ _ _ h => h) (by rfl) ?_ (by assumption) ?_
      rotate_left
      · (intro wx hSw; obtain ⟨x0, x1, x2, x3⟩ := hSw; go_simp; with_reducible rfl)
      simp only [Act.put, List.setIfInBounds_toArray, List.set_cons_zero, List.set_cons_succ]
      refine take_at (i := 14) (v := ?_) rfl (by kernel_rfl) (by kernel_rfl) (by kernel_rfl) (fun _ _ _ h => h) (by rfl) ?_ (by assumption) ?_
      rotate_left
      · (intro wx hSw; obtain ⟨x0, x1, x2, x3⟩ := hSw; go_simp; with_reducible rfl)
      simp only [Act.put, List.setIfInBounds_toArray, List.set_cons_zero, List.set_cons_succ]
      refine take_at (i := 15) (v := ?_) rfl (by kernel_rfl) (by kernel_rfl) (by kernel_rfl) (fun _ _ _ h => h) (by rfl) ?_ (by assumption) ?_
      rotate_left
      · (intro wx hSw; obtain ⟨x0, x1, x2, x3⟩ := hSw; go_simp; with_reducible rfl)
      simp only [Act.put, List.setIfInBounds_toArray, List.set_cons_zero, List.set_cons_succ]
      refine take_at (i := 16) (v := ?_) rfl (by kernel_rfl) (by kernel_rfl) (by kernel_rfl) (fun _ _ _ h => h) (by rfl) ?_ (by assumption) ?_
      rotate_left
      · (intro wx hSw; obtain ⟨x0, x1, x2, x3⟩ := hSw; go_simp; with_reducible rfl)
      simp only [Act.put, List.setIfInBounds_toArray, List.set_cons_zero, List.set_cons_succ]
      refine take_at (i := 17) (v := ?_) rfl (by kernel_rfl) (by kernel_rfl) (by kernel_rfl) (fun _ _ _ h => h) (by rfl) ?_ (by assumption) ?_
      rotate_left
      · (intro wx hSw; obtain ⟨x0, x1, x2, x3⟩ := hSw; go_simp; with_reducible rfl)
      simp only [Act.put, List.setIfInBounds_toArray, List.set_cons_zero, List.set_cons_succ]
      refine take_at (i := 18) (v := ?_) rfl (by kernel_rfl) (by kernel_rfl) (by kernel_rfl) (fun _ _ _ h => h) (by rfl) ?_ (by assumption) ?_
      rotate_left
      · (intro wx hSw; obtain ⟨x0, x1, x2, x3⟩ := hSw; go_simp; with_reducible rfl)
      simp only [Act.put, List.setIfInBounds_toArray, List.set_cons_zero, List.set_cons_succ]
      refine take_at (i := 19) (v := ?_) rfl (by kernel_rfl) (by kernel_rfl) (by kernel_rfl) (fun _ _ _ h => h) (by rfl) ?_ (by assumption) ?_
      rotate_left
      · (intro wx hSw; obtain ⟨x0, x1, x2, x3⟩ := hSw; go_simp; with_reducible rfl)
      simp only [Act.put, List.setIfInBounds_toArray, List.set_cons_zero, List.set_cons_succ]
      refine take_at (i := 20) (v := ?_) rfl (by kernel_rfl) (by kernel_rfl) (by kernel_rfl) (fun _ _ _ h => h) (by rfl) ?_ (by assumption) ?_
      rotate_left
      · (intro wx hSw; obtain ⟨x0, x1, x2, x3⟩ := hSw; go_simp; with_reducible rfl)
      simp only [Act.put, List.setIfInBounds_toArray, List.set_cons_zero, List.set_cons_succ]
      refine take_at (i := 21) (v := ?_) rfl (by kernel_rfl) (by kernel_rfl) (by kernel_rfl) (fun _ _ _ h => h) (by rfl) ?_ (by assumption) ?_
      rotate_left
      · (intro wx hSw; obtain ⟨x0, x1, x2, x3⟩ := hSw; go_simp; with_reducible rfl)
      simp only [Act.put, List.setIfInBounds_toArray, List.set_cons_zero, List.set_cons_succ]
      refine take_at (i := 22) (v := ?_) rfl (by kernel_rfl) (by kernel_rfl) (by kernel_rfl) (fun _ _ _ h => h) (by rfl) ?_ (by assumption) ?_
      rotate_left
      · (intro wx hSw; obtain ⟨x0, x1, x2, x3⟩ := hSw; go_simp; with_reducible rfl)
      simp only [Act.put, List.setIfInBounds_toArray, List.set_cons_zero, List.set_cons_succ]
      refine take_at (i := 23) (v := ?_) rfl (by kernel_rfl) (by kernel_rfl) (by kernel_rfl) (fun _ _ _ h => h) (by rfl) ?_ (by assumption) ?_
      rotate_left
      · (intro wx hSw; obtain ⟨x0, x1, x2, x3⟩ := hSw; go_simp; with_reducible rfl)
      simp only [Act.put, List.setIfInBounds_toArray, List.set_cons_zero, List.set_cons_succ]
      refine only_at (i := 24) rfl (by kernel_rfl) (by rfl) (fun K hK => ?_)
      go_simp
      refine hK.out _ _ (by simp [h2, cl0, k0, k1, World.cell?_alloc_some]) ?_
      clear hK K hHeld
      refine only_at (i := 25) rfl (by kernel_rfl) (by rfl) (fun K hK => ?_)
      refine wp_append_own _ _ _ 86 rfl w1.heap.size 89 i0 (.agg #[.int .i64 0, .int .i64 0]) 2 16 Tryz.underlying86 hi hz0 hz1 hz2 rfl (by omega) u4 j (keyCells acc) rfl (World.ownsRow.alloc (w := wr.drew) hown _) ⟨wr.heap.size, 0, none⟩ 1 1 (keyCells [(cn, ci)]) rfl rfl ?_ (keyCells_one _) (by unfold maxLen; omega) (by omega) (by simp; omega) ?_
      · exact news_key wr.drew _ rfl _ _ _
      intro v' w3 hown3 hgrow _
      have hne : ∀ (y : Nat), y < w1.heap.size → some y ≠ u4.ownBlock := by
        intro y hy e
        have := (hown.lt y e.symm).1
        omega
      have hq : ∀ (y ob : Nat) (z : Value), y < w1.heap.size → wr.cell? ⟨y, ob, none⟩ = some z → w3.cell? ⟨y, ob, none⟩ = some z := fun y ob z hy hz =>
        hgrow.cell (by simp [hz, World.cell?_alloc_some]) (hne y hy)
      have hS3 : w3.cell? ⟨b, 54, none⟩ = some (.slice (some ⟨gk, 0, none⟩) m.keys.length ck) ∧ w3.cell? ⟨gl, j, none⟩ = some (.int .i64 x) ∧ w3.cell? ⟨gk, x * 4, none⟩ = some (.int .i64 cn) ∧ w3.cell? ⟨gk, x * 4 + 1, none⟩ = some (.int .i64 ci) := ⟨hq _ _ _ hbl1 h2, hq _ _ _ hgl cl0, hq _ _ _ hgk1 k0, hq _ _ _ hgk1 k1⟩
      refine hK.out _ _ hS3 ?_
      clear hK K
      simp only [Act.put, List.setIfInBounds_toArray, List.set_cons_zero, List.set_cons_succ]
      refine only_at (i := 26) rfl (by kernel_rfl) (by rfl) (fun K hK => ?_)
      go_simp
      refine hK.out _ _ hS3 ?_
      clear hK K hq hS3
      refine wpAnyH_done (by kernel_rfl) ?_ _
      refine NoPanic.normal ?_
      clear h2 cl0 k0 k1
      go_wp2
      refine ⟨⟨j + 1, by omega, by go_num, ?_, ?_⟩, by simp [intOf]; omega⟩
      · rw [HS.out, List.map_append, HA.out, keyCells_append]
        simp only [List.map_cons, List.map_nil, HC.out]
        exact hown3
      · refine (hb.drew.alloc hbase _).grown hgrow (by simp; omega) ?_
        intro y hy
        exact (hown.lt y hy).1
    · have : j = L.length := by omega
      subst this
      go_wp2
      go_ret
      rw [List.take_length, ← hwt.out] at hown
      exact ⟨_, rfl, own_mono hown hs1, hb1.trans (hb.mono hs1)⟩

end
end Go.Proofs.YtlafkpaljibonaaGreat
