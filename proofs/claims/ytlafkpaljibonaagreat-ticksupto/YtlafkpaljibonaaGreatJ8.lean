import Derived.Test.YtlafkpaljibonaaGreatJ7
import Derived.Deep.LoopGhost
namespace Go.Proofs.YtlafkpaljibonaaGreat
open Go.RowKit

def RM.pushed (m : RM) (n : Nat) (i : Int) : RM := { m with keys := m.keys ++ [⟨n, i, ⟨#[]⟩, 0⟩] }

section
variable {o : Nat → Tag} {q : Nat} {w : World} {b : Nat} {m : RM} {lv : Nat → Value} {kv qv : Value}

set_option maxRecDepth 100000 in
set_option maxHeartbeats 4000000 in
theorem opens_fine (h : RMem o q w b m lv kv qv) (hq : q ≠ 0) (n : Nat) (_hn : n < 4) (kd i : Int) (c : ByteArray) (hrole : (c.toList == [1]) = true) (hh : ¬ 4 ≤ m.held n) (_hs : (m.line n).sent.length ≤ 1000000000000) (hmax : m.keys.length ≤ 100000000000) :
    Calls Tryz.prog 109 #[.pointer (some ⟨b, 0, none⟩), .int .i64 n, .agg #[.int .i64 kd, .int .i64 i, .string c]] w fun r w' => r = .returned (.tuple #[]) ∧ ∃ o' lv' kv', RMem o' q w' b (m.pushed n i) lv' kv' qv ∧ Fr q o w o' w' := by
  obtain ⟨i0, hi, hz0, hz1, hz2⟩ := info_parts infoRKey
  have kh : Hid (∀ w', RMem o q w' b m lv kv qv → Calls Tryz.prog 122 #[.pointer (some ⟨b, 0, none⟩), .int .i64 n] w' fun r w'' => r = .returned (.int .i64 (m.held n)) ∧ w'' = w') := fun w' h' => rHeld_any h' n
  generalize m.held n = hd at *
  have x0 := Blk.made w 102 [.int .i64 kd, .int .i64 i, .string c]
  have hb0 : Below w.heap.size w (w.alloc (.cells #[.int .i64 kd, .int .i64 i, .string c] 102)) := (Below.refl _ _).alloc (Nat.le_refl _) _
  have hA := h.below hb0
  have frA := Fr.of_below (q := q) h.clean hb0
  have hkey : o w.heap.size = (0, 0) := h.clean _ (Nat.le_refl _)
  have hbn : b ≠ w.heap.size := by have := h.blk.lt; omega
  unfold RM.pushed
  go_enter Tryz.func109, Tryz.ntmps109
  go_wp2_with fail
  refine (kh.out _ hA).mono ?_
  rintro e w1 ⟨rfl, hw1⟩
  rw [← hw1] at hA x0 frA
  clear hw1 hb0 kh
  have x1 : Blk w1 w.heap.size 102 [.int .i64 kd, .int .i64 i, .string c] := x0
  have hlt1 := x1.lt
  have y1 := x1.cell (k := 1) (u := .int .i64 i) rfl
  clear x0
  go_wp2_with fail
  have hmd := hA.below (Below.refl _ _).drew
  have frd := frA.below (Below.refl _ _).drew
  have y2 := hmd.keysv
  have hform := hmd.keys.form
  obtain ⟨ar, cr, hrv, -, -⟩ := hform
  have hrown := hmd.keys.1
  subst hrv
  have xA := (x1.below (Below.refl _ _).drew).below ((Below.refl _ _).alloc (Nat.le_refl _) (.cells #[.int .i64 n, .int .i64 i, .string ⟨#[]⟩, .int .i64 0] 99))
  have hSA : (w1.drew.alloc (.cells #[.int .i64 n, .int .i64 i, .string ⟨#[]⟩, .int .i64 0] 99)).cell? ⟨w.heap.size, 1, none⟩ = some (.int .i64 i) := xA.cell rfl
  refine wp_region_noPanic ?_
  refine wp_region_held_drew (S := fun w' => w'.cell? ⟨w.heap.size, 1, none⟩ = some (.int .i64 i)) (by kernel_rfl) y1 (fun hHeld => ?_)
  refine take_at (i := 0) (v := ?_) rfl (by kernel_rfl) (by kernel_rfl) (by kernel_rfl) (fun _ _ _ h => h) (by rfl) ?_ (by assumption) ?_
  rotate_left
  · (intro wx hSw; go_simp; with_reducible rfl)
  simp only [Act.put, List.setIfInBounds_toArray, List.set_cons_zero, List.set_cons_succ]
  refine take_at (i := 1) (v := ?_) rfl (by kernel_rfl) (by kernel_rfl) (by kernel_rfl) (fun _ _ _ h => h) (by rfl) ?_ (by assumption) ?_
  rotate_left
  · (intro wx hSw; go_simp; with_reducible rfl)
  simp only [Act.put, List.setIfInBounds_toArray, List.set_cons_zero, List.set_cons_succ]
  refine take_at (i := 2) (v := ?_) rfl (by kernel_rfl) (by kernel_rfl) (by kernel_rfl) (fun _ _ _ h => h) (by rfl) ?_ (by assumption) ?_
  rotate_left
  · (intro wx hSw; go_simp; with_reducible rfl)
  simp only [Act.put, List.setIfInBounds_toArray, List.set_cons_zero, List.set_cons_succ]
  refine take_at (i := 3) (v := ?_) rfl (by kernel_rfl) (by kernel_rfl) (by kernel_rfl) (fun _ _ _ h => h) (by rfl) ?_ (by assumption) ?_
  rotate_left
  · (intro wx hSw; go_simp; with_reducible rfl)
  simp only [Act.put, List.setIfInBounds_toArray, List.set_cons_zero, List.set_cons_succ]
  refine take_at (i := 5) (v := ?_) rfl (by kernel_rfl) (by kernel_rfl) (by kernel_rfl) (fun _ _ _ h => h) (by rfl) ?_ (by assumption) ?_
  rotate_left
  · (intro wx hSw; go_simp; with_reducible rfl)
  simp only [Act.put, List.setIfInBounds_toArray, List.set_cons_zero, List.set_cons_succ]
  refine take_at (i := 6) (v := ?_) rfl (by kernel_rfl) (by kernel_rfl) (by kernel_rfl) (fun _ _ _ h => h) (by rfl) ?_ (by assumption) ?_
  rotate_left
  · (intro wx hSw; go_simp; with_reducible rfl)
  simp only [Act.put, List.setIfInBounds_toArray, List.set_cons_zero, List.set_cons_succ]
  refine take_at (i := 7) (v := ?_) rfl (by kernel_rfl) (by kernel_rfl) (by kernel_rfl) (fun _ _ _ h => h) (by rfl) ?_ (by assumption) ?_
  rotate_left
  · (intro wx hSw; go_simp; with_reducible rfl)
  simp only [Act.put, List.setIfInBounds_toArray, List.set_cons_zero, List.set_cons_succ]
  refine take_at (i := 8) (v := ?_) rfl (by kernel_rfl) (by kernel_rfl) (by kernel_rfl) (fun _ _ _ h => h) (by rfl) ?_ (by assumption) ?_
  rotate_left
  · (intro wx hSw; go_simp; with_reducible rfl)
  simp only [Act.put, List.setIfInBounds_toArray, List.set_cons_zero, List.set_cons_succ]
  refine two_at (i := 4) (j := 9) rfl rfl (by kernel_rfl) (by rfl) (by rfl) (fun K hK => ?_) (fun K hK => ?_)
  · go_simp
    refine hK.out _ _ y1 ?_
    clear hK K
    try simp only [Act.put, List.setIfInBounds_toArray, List.set_cons_zero, List.set_cons_succ]
    refine only_at (i := 9) rfl (by kernel_rfl) (by rfl) (fun K hK => ?_)
    go_simp
    refine hK.out _ _ hSA ?_
    clear hK K
    refine only_at (i := 10) rfl (by kernel_rfl) (by rfl) (fun K hK => ?_)
    refine wp_append_lies _ _ _ 73 rfl 0 99 i0 (.agg #[.int .i64 0, .int .i64 0, .string ⟨#[]⟩, .int .i64 0]) 4 40 Tryz.underlying73 hi hz0 hz1 hz2 rfl (by omega) (.slice ar m.keys.length cr) m.keys.length (rkeyCells m.keys) rfl (hrown.alloc _) ⟨w1.heap.size, 0, none⟩ 1 1 (rkeyCells [⟨n, i, ⟨#[]⟩, 0⟩]) rfl rfl ?_ (rkeyCells_one _) (by omega) (by unfold maxLen; omega) (by omega) (Nat.zero_le _) _ rfl ?_
    · exact news_rkey w1.drew _ rfl ⟨n, i, ⟨#[]⟩, 0⟩ _
    intro g3 c3 w3 own3 hg3 hat3 hlt3
    have hmA := hmd.alloc (.cells #[.int .i64 n, .int .i64 i, .string ⟨#[]⟩, .int .i64 0] 99)
    have frB : Fr q o w o (w1.drew.alloc (.cells #[.int .i64 n, .int .i64 i, .string ⟨#[]⟩, .int .i64 0] 99)) := frd.below ((Below.refl _ _).alloc (Nat.le_refl _) _)
    have own3' : w3.ownsRow 0 99 4 (.slice (some ⟨g3, 0, none⟩) (m.keys.length + 1) c3) (m.keys ++ [(⟨n, i, ⟨#[]⟩, 0⟩ : RKey)]).length (rkeyCells (m.keys ++ [(⟨n, i, ⟨#[]⟩, 0⟩ : RKey)])) := by
      rw [rkeyCells_append, List.length_append]; exact own3
    have hat3' : (Value.slice ar m.keys.length cr).ownBlock = (Value.slice (some ⟨g3, 0, none⟩) (m.keys.length + 1) c3).ownBlock ∨ (Value.slice (some ⟨g3, 0, none⟩) (m.keys.length + 1) c3).ownBlock = some (w1.drew.alloc (.cells #[.int .i64 n, .int .i64 i, .string ⟨#[]⟩, .int .i64 0] 99)).heap.size := by
      rcases hat3 with e | e
      · exact .inl e
      · right; rw [e]; rfl
    obtain ⟨o4, hm4, fr4⟩ := hmA.pushKey _ _ own3' hg3 hat3'
    have hnr : some w.heap.size ≠ (Value.slice ar m.keys.length cr).ownBlock := by
      intro e
      have := hmd.keys.2 _ e.symm
      rw [hkey] at this
      exact hq (congrArg Prod.fst this).symm
    have x3 : Blk w3 w.heap.size 102 [.int .i64 kd, .int .i64 i, .string c] := x1.keep ((hg3.block _ (by simp; omega) hnr).trans (Below.heap_alloc _ _ _ hlt1))
    have nb : some b ≠ (Value.slice ar m.keys.length cr).ownBlock := by
      intro e
      have := hmd.keys.2 _ e.symm
      rw [hmd.tag] at this
      simp at this
    have b3 : Blk w3 b _ _ := hmA.blk.keep (hg3.block b hmA.blk.lt nb)
    have z2 := b3.cell (k := 54) (u := .slice ar m.keys.length cr) rfl
    have fz := b3.frozen
    have hS3 : w3.cell? ⟨w.heap.size, 1, none⟩ = some (.int .i64 i) := x3.cell rfl
    refine hK.out _ _ hS3 ?_
    clear hK K
    try simp only [Act.put, List.setIfInBounds_toArray, List.set_cons_zero, List.set_cons_succ]
    refine take_at (i := 11) (v := ?_) rfl (by kernel_rfl) (by kernel_rfl) (by kernel_rfl) (fun _ _ _ h => h) (by rfl) ?_ (by assumption) ?_
    rotate_left
    · (intro wx hSw; go_simp; with_reducible rfl)
    simp only [Act.put, List.setIfInBounds_toArray, List.set_cons_zero, List.set_cons_succ]
    refine take_at (i := 12) (v := ?_) rfl (by kernel_rfl) (by kernel_rfl) (by kernel_rfl) (fun _ _ _ h => h) (by rfl) ?_ (by assumption) ?_
    rotate_left
    · (intro wx hSw; go_simp; with_reducible rfl)
    simp only [Act.put, List.setIfInBounds_toArray, List.set_cons_zero, List.set_cons_succ]
    refine only_at (i := 13) rfl (by kernel_rfl) (by rfl) (fun K hK => ?_)
    go_simp
    have x4 := x3.keep (w' := w3.setCell ⟨b, 54, none⟩ (.slice (some ⟨g3, 0, none⟩) (m.keys.length + 1) c3)) (Below.heap_setCell _ _ _ _ (by simpa using hbn.symm))
    refine hK.out _ _ (x4.cell rfl) ?_
    clear hK K
    refine wpAnyH_done (by kernel_rfl) ?_ _
    refine NoPanic.normal ?_
    have frC := frB.trans fr4
    have y1 := x4.cell (k := 2) (u := .string c) rfl
    have z4 := hm4.keysv
    have hlenI : (m.keys.length : Int) ≤ 100000000000 := by omega
    go_wp2
    refine bodyPost_end (v := .tuple #[]) (by simp [results, Tryz.results109, go_sem]) rfl ⟨rfl, ?_⟩
    first | exact ⟨o4, lv, _, hm4, frC⟩ | exact ⟨o4, ⟨lv, _, hm4⟩, frC⟩
  · go_simp
    refine hK.out _ _ hSA ?_
    clear hK K
    try simp only [Act.put, List.setIfInBounds_toArray, List.set_cons_zero, List.set_cons_succ]
    have y2a := fun ob => (hA.alloc ob).keysv
    refine only_at (i := 4) rfl (by kernel_rfl) (by rfl) (fun K hK => ?_)
    go_simp
    refine hK.out _ _ hSA ?_
    clear hK K
    refine only_at (i := 10) rfl (by kernel_rfl) (by rfl) (fun K hK => ?_)
    refine wp_append_lies _ _ _ 73 rfl 0 99 i0 (.agg #[.int .i64 0, .int .i64 0, .string ⟨#[]⟩, .int .i64 0]) 4 40 Tryz.underlying73 hi hz0 hz1 hz2 rfl (by omega) (.slice ar m.keys.length cr) m.keys.length (rkeyCells m.keys) rfl (hrown.alloc _) ⟨w1.heap.size, 0, none⟩ 1 1 (rkeyCells [⟨n, i, ⟨#[]⟩, 0⟩]) rfl rfl ?_ (rkeyCells_one _) (by omega) (by unfold maxLen; omega) (by omega) (Nat.zero_le _) _ rfl ?_
    · exact news_rkey w1.drew _ rfl ⟨n, i, ⟨#[]⟩, 0⟩ _
    intro g3 c3 w3 own3 hg3 hat3 hlt3
    have hmA := hmd.alloc (.cells #[.int .i64 n, .int .i64 i, .string ⟨#[]⟩, .int .i64 0] 99)
    have frB : Fr q o w o (w1.drew.alloc (.cells #[.int .i64 n, .int .i64 i, .string ⟨#[]⟩, .int .i64 0] 99)) := frd.below ((Below.refl _ _).alloc (Nat.le_refl _) _)
    have own3' : w3.ownsRow 0 99 4 (.slice (some ⟨g3, 0, none⟩) (m.keys.length + 1) c3) (m.keys ++ [(⟨n, i, ⟨#[]⟩, 0⟩ : RKey)]).length (rkeyCells (m.keys ++ [(⟨n, i, ⟨#[]⟩, 0⟩ : RKey)])) := by
      rw [rkeyCells_append, List.length_append]; exact own3
    have hat3' : (Value.slice ar m.keys.length cr).ownBlock = (Value.slice (some ⟨g3, 0, none⟩) (m.keys.length + 1) c3).ownBlock ∨ (Value.slice (some ⟨g3, 0, none⟩) (m.keys.length + 1) c3).ownBlock = some (w1.drew.alloc (.cells #[.int .i64 n, .int .i64 i, .string ⟨#[]⟩, .int .i64 0] 99)).heap.size := by
      rcases hat3 with e | e
      · exact .inl e
      · right; rw [e]; rfl
    obtain ⟨o4, hm4, fr4⟩ := hmA.pushKey _ _ own3' hg3 hat3'
    have hnr : some w.heap.size ≠ (Value.slice ar m.keys.length cr).ownBlock := by
      intro e
      have := hmd.keys.2 _ e.symm
      rw [hkey] at this
      exact hq (congrArg Prod.fst this).symm
    have x3 : Blk w3 w.heap.size 102 [.int .i64 kd, .int .i64 i, .string c] := x1.keep ((hg3.block _ (by simp; omega) hnr).trans (Below.heap_alloc _ _ _ hlt1))
    have nb : some b ≠ (Value.slice ar m.keys.length cr).ownBlock := by
      intro e
      have := hmd.keys.2 _ e.symm
      rw [hmd.tag] at this
      simp at this
    have b3 : Blk w3 b _ _ := hmA.blk.keep (hg3.block b hmA.blk.lt nb)
    have z2 := b3.cell (k := 54) (u := .slice ar m.keys.length cr) rfl
    have fz := b3.frozen
    have hS3 : w3.cell? ⟨w.heap.size, 1, none⟩ = some (.int .i64 i) := x3.cell rfl
    refine hK.out _ _ hS3 ?_
    clear hK K
    try simp only [Act.put, List.setIfInBounds_toArray, List.set_cons_zero, List.set_cons_succ]
    refine take_at (i := 11) (v := ?_) rfl (by kernel_rfl) (by kernel_rfl) (by kernel_rfl) (fun _ _ _ h => h) (by rfl) ?_ (by assumption) ?_
    rotate_left
    · (intro wx hSw; go_simp; with_reducible rfl)
    simp only [Act.put, List.setIfInBounds_toArray, List.set_cons_zero, List.set_cons_succ]
    refine take_at (i := 12) (v := ?_) rfl (by kernel_rfl) (by kernel_rfl) (by kernel_rfl) (fun _ _ _ h => h) (by rfl) ?_ (by assumption) ?_
    rotate_left
    · (intro wx hSw; go_simp; with_reducible rfl)
    simp only [Act.put, List.setIfInBounds_toArray, List.set_cons_zero, List.set_cons_succ]
    refine only_at (i := 13) rfl (by kernel_rfl) (by rfl) (fun K hK => ?_)
    go_simp
    have x4 := x3.keep (w' := w3.setCell ⟨b, 54, none⟩ (.slice (some ⟨g3, 0, none⟩) (m.keys.length + 1) c3)) (Below.heap_setCell _ _ _ _ (by simpa using hbn.symm))
    refine hK.out _ _ (x4.cell rfl) ?_
    clear hK K
    refine wpAnyH_done (by kernel_rfl) ?_ _
    refine NoPanic.normal ?_
    have frC := frB.trans fr4
    have y1 := x4.cell (k := 2) (u := .string c) rfl
    have z4 := hm4.keysv
    have hlenI : (m.keys.length : Int) ≤ 100000000000 := by omega
    go_wp2
    refine bodyPost_end (v := .tuple #[]) (by simp [results, Tryz.results109, go_sem]) rfl ⟨rfl, ?_⟩
    first | exact ⟨o4, lv, _, hm4, frC⟩ | exact ⟨o4, ⟨lv, _, hm4⟩, frC⟩

set_option maxRecDepth 100000 in
set_option maxHeartbeats 4000000 in
theorem opens_unknown (h : RMem o q w b m lv kv qv) (hq : q ≠ 0) (n : Nat) (hn : n < 4) (kd i : Int) (c : ByteArray) (hrole : (c.toList == [1]) = false) (hs : (m.line n).sent.length ≤ 1000000000000) (hmax : m.keys.length ≤ 100000000000) :
    Calls Tryz.prog 109 #[.pointer (some ⟨b, 0, none⟩), .int .i64 n, .agg #[.int .i64 kd, .int .i64 i, .string c]] w fun r w' => r = .returned (.tuple #[]) ∧ ∃ o' lv' kv', RMem o' q w' b ((m.pushed n i).endKey m.keys.length 3) lv' kv' qv ∧ Fr q o w o' w' := by
  obtain ⟨i0, hi, hz0, hz1, hz2⟩ := info_parts infoRKey
  have kh : Hid (∀ w', RMem o q w' b m lv kv qv → Calls Tryz.prog 122 #[.pointer (some ⟨b, 0, none⟩), .int .i64 n] w' fun r w'' => r = .returned (.int .i64 (m.held n)) ∧ w'' = w') := fun w' h' => rHeld_any h' n
  generalize m.held n = hd at *
  have x0 := Blk.made w 102 [.int .i64 kd, .int .i64 i, .string c]
  have hb0 : Below w.heap.size w (w.alloc (.cells #[.int .i64 kd, .int .i64 i, .string c] 102)) := (Below.refl _ _).alloc (Nat.le_refl _) _
  have hA := h.below hb0
  have frA := Fr.of_below (q := q) h.clean hb0
  have hkey : o w.heap.size = (0, 0) := h.clean _ (Nat.le_refl _)
  have hbn : b ≠ w.heap.size := by have := h.blk.lt; omega
  unfold RM.pushed
  go_enter Tryz.func109, Tryz.ntmps109
  go_wp2_with fail
  refine (kh.out _ hA).mono ?_
  rintro e w1 ⟨rfl, hw1⟩
  rw [← hw1] at hA x0 frA
  clear hw1 hb0 kh
  have x1 : Blk w1 w.heap.size 102 [.int .i64 kd, .int .i64 i, .string c] := x0
  have hlt1 := x1.lt
  have y1 := x1.cell (k := 1) (u := .int .i64 i) rfl
  clear x0
  go_wp2_with fail
  have hmd := hA.below (Below.refl _ _).drew
  have frd := frA.below (Below.refl _ _).drew
  have y2 := hmd.keysv
  have hform := hmd.keys.form
  obtain ⟨ar, cr, hrv, -, -⟩ := hform
  have hrown := hmd.keys.1
  subst hrv
  have xA := (x1.below (Below.refl _ _).drew).below ((Below.refl _ _).alloc (Nat.le_refl _) (.cells #[.int .i64 n, .int .i64 i, .string ⟨#[]⟩, .int .i64 0] 99))
  have hSA : (w1.drew.alloc (.cells #[.int .i64 n, .int .i64 i, .string ⟨#[]⟩, .int .i64 0] 99)).cell? ⟨w.heap.size, 1, none⟩ = some (.int .i64 i) := xA.cell rfl
  refine wp_region_noPanic ?_
  refine wp_region_held_drew (S := fun w' => w'.cell? ⟨w.heap.size, 1, none⟩ = some (.int .i64 i)) (by kernel_rfl) y1 (fun hHeld => ?_)
  refine take_at (i := 0) (v := ?_) rfl (by kernel_rfl) (by kernel_rfl) (by kernel_rfl) (fun _ _ _ h => h) (by rfl) ?_ (by assumption) ?_
  rotate_left
  · (intro wx hSw; go_simp; with_reducible rfl)
  simp only [Act.put, List.setIfInBounds_toArray, List.set_cons_zero, List.set_cons_succ]
  refine take_at (i := 1) (v := ?_) rfl (by kernel_rfl) (by kernel_rfl) (by kernel_rfl) (fun _ _ _ h => h) (by rfl) ?_ (by assumption) ?_
  rotate_left
  · (intro wx hSw; go_simp; with_reducible rfl)
  simp only [Act.put, List.setIfInBounds_toArray, List.set_cons_zero, List.set_cons_succ]
  refine take_at (i := 2) (v := ?_) rfl (by kernel_rfl) (by kernel_rfl) (by kernel_rfl) (fun _ _ _ h => h) (by rfl) ?_ (by assumption) ?_
  rotate_left
  · (intro wx hSw; go_simp; with_reducible rfl)
  simp only [Act.put, List.setIfInBounds_toArray, List.set_cons_zero, List.set_cons_succ]
  refine take_at (i := 3) (v := ?_) rfl (by kernel_rfl) (by kernel_rfl) (by kernel_rfl) (fun _ _ _ h => h) (by rfl) ?_ (by assumption) ?_
  rotate_left
  · (intro wx hSw; go_simp; with_reducible rfl)
  simp only [Act.put, List.setIfInBounds_toArray, List.set_cons_zero, List.set_cons_succ]
  refine take_at (i := 5) (v := ?_) rfl (by kernel_rfl) (by kernel_rfl) (by kernel_rfl) (fun _ _ _ h => h) (by rfl) ?_ (by assumption) ?_
  rotate_left
  · (intro wx hSw; go_simp; with_reducible rfl)
  simp only [Act.put, List.setIfInBounds_toArray, List.set_cons_zero, List.set_cons_succ]
  refine take_at (i := 6) (v := ?_) rfl (by kernel_rfl) (by kernel_rfl) (by kernel_rfl) (fun _ _ _ h => h) (by rfl) ?_ (by assumption) ?_
  rotate_left
  · (intro wx hSw; go_simp; with_reducible rfl)
  simp only [Act.put, List.setIfInBounds_toArray, List.set_cons_zero, List.set_cons_succ]
  refine take_at (i := 7) (v := ?_) rfl (by kernel_rfl) (by kernel_rfl) (by kernel_rfl) (fun _ _ _ h => h) (by rfl) ?_ (by assumption) ?_
  rotate_left
  · (intro wx hSw; go_simp; with_reducible rfl)
  simp only [Act.put, List.setIfInBounds_toArray, List.set_cons_zero, List.set_cons_succ]
  refine take_at (i := 8) (v := ?_) rfl (by kernel_rfl) (by kernel_rfl) (by kernel_rfl) (fun _ _ _ h => h) (by rfl) ?_ (by assumption) ?_
  rotate_left
  · (intro wx hSw; go_simp; with_reducible rfl)
  simp only [Act.put, List.setIfInBounds_toArray, List.set_cons_zero, List.set_cons_succ]
  refine two_at (i := 4) (j := 9) rfl rfl (by kernel_rfl) (by rfl) (by rfl) (fun K hK => ?_) (fun K hK => ?_)
  · go_simp
    refine hK.out _ _ y1 ?_
    clear hK K
    try simp only [Act.put, List.setIfInBounds_toArray, List.set_cons_zero, List.set_cons_succ]
    refine only_at (i := 9) rfl (by kernel_rfl) (by rfl) (fun K hK => ?_)
    go_simp
    refine hK.out _ _ hSA ?_
    clear hK K
    refine only_at (i := 10) rfl (by kernel_rfl) (by rfl) (fun K hK => ?_)
    refine wp_append_lies _ _ _ 73 rfl 0 99 i0 (.agg #[.int .i64 0, .int .i64 0, .string ⟨#[]⟩, .int .i64 0]) 4 40 Tryz.underlying73 hi hz0 hz1 hz2 rfl (by omega) (.slice ar m.keys.length cr) m.keys.length (rkeyCells m.keys) rfl (hrown.alloc _) ⟨w1.heap.size, 0, none⟩ 1 1 (rkeyCells [⟨n, i, ⟨#[]⟩, 0⟩]) rfl rfl ?_ (rkeyCells_one _) (by omega) (by unfold maxLen; omega) (by omega) (Nat.zero_le _) _ rfl ?_
    · exact news_rkey w1.drew _ rfl ⟨n, i, ⟨#[]⟩, 0⟩ _
    intro g3 c3 w3 own3 hg3 hat3 hlt3
    have hmA := hmd.alloc (.cells #[.int .i64 n, .int .i64 i, .string ⟨#[]⟩, .int .i64 0] 99)
    have frB : Fr q o w o (w1.drew.alloc (.cells #[.int .i64 n, .int .i64 i, .string ⟨#[]⟩, .int .i64 0] 99)) := frd.below ((Below.refl _ _).alloc (Nat.le_refl _) _)
    have own3' : w3.ownsRow 0 99 4 (.slice (some ⟨g3, 0, none⟩) (m.keys.length + 1) c3) (m.keys ++ [(⟨n, i, ⟨#[]⟩, 0⟩ : RKey)]).length (rkeyCells (m.keys ++ [(⟨n, i, ⟨#[]⟩, 0⟩ : RKey)])) := by
      rw [rkeyCells_append, List.length_append]; exact own3
    have hat3' : (Value.slice ar m.keys.length cr).ownBlock = (Value.slice (some ⟨g3, 0, none⟩) (m.keys.length + 1) c3).ownBlock ∨ (Value.slice (some ⟨g3, 0, none⟩) (m.keys.length + 1) c3).ownBlock = some (w1.drew.alloc (.cells #[.int .i64 n, .int .i64 i, .string ⟨#[]⟩, .int .i64 0] 99)).heap.size := by
      rcases hat3 with e | e
      · exact .inl e
      · right; rw [e]; rfl
    obtain ⟨o4, hm4, fr4⟩ := hmA.pushKey _ _ own3' hg3 hat3'
    have hnr : some w.heap.size ≠ (Value.slice ar m.keys.length cr).ownBlock := by
      intro e
      have := hmd.keys.2 _ e.symm
      rw [hkey] at this
      exact hq (congrArg Prod.fst this).symm
    have x3 : Blk w3 w.heap.size 102 [.int .i64 kd, .int .i64 i, .string c] := x1.keep ((hg3.block _ (by simp; omega) hnr).trans (Below.heap_alloc _ _ _ hlt1))
    have nb : some b ≠ (Value.slice ar m.keys.length cr).ownBlock := by
      intro e
      have := hmd.keys.2 _ e.symm
      rw [hmd.tag] at this
      simp at this
    have b3 : Blk w3 b _ _ := hmA.blk.keep (hg3.block b hmA.blk.lt nb)
    have z2 := b3.cell (k := 54) (u := .slice ar m.keys.length cr) rfl
    have fz := b3.frozen
    have hS3 : w3.cell? ⟨w.heap.size, 1, none⟩ = some (.int .i64 i) := x3.cell rfl
    refine hK.out _ _ hS3 ?_
    clear hK K
    try simp only [Act.put, List.setIfInBounds_toArray, List.set_cons_zero, List.set_cons_succ]
    refine take_at (i := 11) (v := ?_) rfl (by kernel_rfl) (by kernel_rfl) (by kernel_rfl) (fun _ _ _ h => h) (by rfl) ?_ (by assumption) ?_
    rotate_left
    · (intro wx hSw; go_simp; with_reducible rfl)
    simp only [Act.put, List.setIfInBounds_toArray, List.set_cons_zero, List.set_cons_succ]
    refine take_at (i := 12) (v := ?_) rfl (by kernel_rfl) (by kernel_rfl) (by kernel_rfl) (fun _ _ _ h => h) (by rfl) ?_ (by assumption) ?_
    rotate_left
    · (intro wx hSw; go_simp; with_reducible rfl)
    simp only [Act.put, List.setIfInBounds_toArray, List.set_cons_zero, List.set_cons_succ]
    refine only_at (i := 13) rfl (by kernel_rfl) (by rfl) (fun K hK => ?_)
    go_simp
    have x4 := x3.keep (w' := w3.setCell ⟨b, 54, none⟩ (.slice (some ⟨g3, 0, none⟩) (m.keys.length + 1) c3)) (Below.heap_setCell _ _ _ _ (by simpa using hbn.symm))
    refine hK.out _ _ (x4.cell rfl) ?_
    clear hK K
    refine wpAnyH_done (by kernel_rfl) ?_ _
    refine NoPanic.normal ?_
    have frC := frB.trans fr4
    have y1 := x4.cell (k := 2) (u := .string c) rfl
    have z4 := hm4.keysv
    have hlenI : (m.keys.length : Int) ≤ 100000000000 := by omega
    have hget : (m.keys ++ [(⟨n, i, ⟨#[]⟩, 0⟩ : RKey)])[m.keys.length]'(by simp) = ⟨n, i, ⟨#[]⟩, 0⟩ := by simp
    go_wp2_with fail
    refine (rEnd_any hm4 m.keys.length (by simp) n hn (by rw [hget]) 3 (by omega) (by omega) hs).mono ?_
    rintro e w5 ⟨rfl, o5, lv5, hm5, fr5⟩
    go_wp2
    refine bodyPost_end (v := .tuple #[]) (by simp [results, Tryz.results109, go_sem]) rfl ⟨rfl, ?_⟩
    first | exact ⟨o5, lv5, _, hm5, frC.trans fr5⟩ | exact ⟨o5, ⟨lv5, _, hm5⟩, frC.trans fr5⟩
  · go_simp
    refine hK.out _ _ hSA ?_
    clear hK K
    try simp only [Act.put, List.setIfInBounds_toArray, List.set_cons_zero, List.set_cons_succ]
    have y2a := fun ob => (hA.alloc ob).keysv
    refine only_at (i := 4) rfl (by kernel_rfl) (by rfl) (fun K hK => ?_)
    go_simp
    refine hK.out _ _ hSA ?_
    clear hK K
    refine only_at (i := 10) rfl (by kernel_rfl) (by rfl) (fun K hK => ?_)
    refine wp_append_lies _ _ _ 73 rfl 0 99 i0 (.agg #[.int .i64 0, .int .i64 0, .string ⟨#[]⟩, .int .i64 0]) 4 40 Tryz.underlying73 hi hz0 hz1 hz2 rfl (by omega) (.slice ar m.keys.length cr) m.keys.length (rkeyCells m.keys) rfl (hrown.alloc _) ⟨w1.heap.size, 0, none⟩ 1 1 (rkeyCells [⟨n, i, ⟨#[]⟩, 0⟩]) rfl rfl ?_ (rkeyCells_one _) (by omega) (by unfold maxLen; omega) (by omega) (Nat.zero_le _) _ rfl ?_
    · exact news_rkey w1.drew _ rfl ⟨n, i, ⟨#[]⟩, 0⟩ _
    intro g3 c3 w3 own3 hg3 hat3 hlt3
    have hmA := hmd.alloc (.cells #[.int .i64 n, .int .i64 i, .string ⟨#[]⟩, .int .i64 0] 99)
    have frB : Fr q o w o (w1.drew.alloc (.cells #[.int .i64 n, .int .i64 i, .string ⟨#[]⟩, .int .i64 0] 99)) := frd.below ((Below.refl _ _).alloc (Nat.le_refl _) _)
    have own3' : w3.ownsRow 0 99 4 (.slice (some ⟨g3, 0, none⟩) (m.keys.length + 1) c3) (m.keys ++ [(⟨n, i, ⟨#[]⟩, 0⟩ : RKey)]).length (rkeyCells (m.keys ++ [(⟨n, i, ⟨#[]⟩, 0⟩ : RKey)])) := by
      rw [rkeyCells_append, List.length_append]; exact own3
    have hat3' : (Value.slice ar m.keys.length cr).ownBlock = (Value.slice (some ⟨g3, 0, none⟩) (m.keys.length + 1) c3).ownBlock ∨ (Value.slice (some ⟨g3, 0, none⟩) (m.keys.length + 1) c3).ownBlock = some (w1.drew.alloc (.cells #[.int .i64 n, .int .i64 i, .string ⟨#[]⟩, .int .i64 0] 99)).heap.size := by
      rcases hat3 with e | e
      · exact .inl e
      · right; rw [e]; rfl
    obtain ⟨o4, hm4, fr4⟩ := hmA.pushKey _ _ own3' hg3 hat3'
    have hnr : some w.heap.size ≠ (Value.slice ar m.keys.length cr).ownBlock := by
      intro e
      have := hmd.keys.2 _ e.symm
      rw [hkey] at this
      exact hq (congrArg Prod.fst this).symm
    have x3 : Blk w3 w.heap.size 102 [.int .i64 kd, .int .i64 i, .string c] := x1.keep ((hg3.block _ (by simp; omega) hnr).trans (Below.heap_alloc _ _ _ hlt1))
    have nb : some b ≠ (Value.slice ar m.keys.length cr).ownBlock := by
      intro e
      have := hmd.keys.2 _ e.symm
      rw [hmd.tag] at this
      simp at this
    have b3 : Blk w3 b _ _ := hmA.blk.keep (hg3.block b hmA.blk.lt nb)
    have z2 := b3.cell (k := 54) (u := .slice ar m.keys.length cr) rfl
    have fz := b3.frozen
    have hS3 : w3.cell? ⟨w.heap.size, 1, none⟩ = some (.int .i64 i) := x3.cell rfl
    refine hK.out _ _ hS3 ?_
    clear hK K
    try simp only [Act.put, List.setIfInBounds_toArray, List.set_cons_zero, List.set_cons_succ]
    refine take_at (i := 11) (v := ?_) rfl (by kernel_rfl) (by kernel_rfl) (by kernel_rfl) (fun _ _ _ h => h) (by rfl) ?_ (by assumption) ?_
    rotate_left
    · (intro wx hSw; go_simp; with_reducible rfl)
    simp only [Act.put, List.setIfInBounds_toArray, List.set_cons_zero, List.set_cons_succ]
    refine take_at (i := 12) (v := ?_) rfl (by kernel_rfl) (by kernel_rfl) (by kernel_rfl) (fun _ _ _ h => h) (by rfl) ?_ (by assumption) ?_
    rotate_left
    · (intro wx hSw; go_simp; with_reducible rfl)
    simp only [Act.put, List.setIfInBounds_toArray, List.set_cons_zero, List.set_cons_succ]
    refine only_at (i := 13) rfl (by kernel_rfl) (by rfl) (fun K hK => ?_)
    go_simp
    have x4 := x3.keep (w' := w3.setCell ⟨b, 54, none⟩ (.slice (some ⟨g3, 0, none⟩) (m.keys.length + 1) c3)) (Below.heap_setCell _ _ _ _ (by simpa using hbn.symm))
    refine hK.out _ _ (x4.cell rfl) ?_
    clear hK K
    refine wpAnyH_done (by kernel_rfl) ?_ _
    refine NoPanic.normal ?_
    have frC := frB.trans fr4
    have y1 := x4.cell (k := 2) (u := .string c) rfl
    have z4 := hm4.keysv
    have hlenI : (m.keys.length : Int) ≤ 100000000000 := by omega
    have hget : (m.keys ++ [(⟨n, i, ⟨#[]⟩, 0⟩ : RKey)])[m.keys.length]'(by simp) = ⟨n, i, ⟨#[]⟩, 0⟩ := by simp
    go_wp2_with fail
    refine (rEnd_any hm4 m.keys.length (by simp) n hn (by rw [hget]) 3 (by omega) (by omega) hs).mono ?_
    rintro e w5 ⟨rfl, o5, lv5, hm5, fr5⟩
    go_wp2
    refine bodyPost_end (v := .tuple #[]) (by simp [results, Tryz.results109, go_sem]) rfl ⟨rfl, ?_⟩
    first | exact ⟨o5, lv5, _, hm5, frC.trans fr5⟩ | exact ⟨o5, ⟨lv5, _, hm5⟩, frC.trans fr5⟩

set_option maxRecDepth 100000 in
set_option maxHeartbeats 4000000 in
theorem opens_over (h : RMem o q w b m lv kv qv) (hq : q ≠ 0) (n : Nat) (hn : n < 4) (kd i : Int) (c : ByteArray) (hrole : (c.toList == [1]) = true) (hh : 4 ≤ m.held n) (hs : (m.line n).sent.length ≤ 1000000000000) (hmax : m.keys.length ≤ 100000000000) :
    Calls Tryz.prog 109 #[.pointer (some ⟨b, 0, none⟩), .int .i64 n, .agg #[.int .i64 kd, .int .i64 i, .string c]] w fun r w' => r = .returned (.tuple #[]) ∧ ∃ o' lv' kv', RMem o' q w' b ((m.pushed n i).endKey m.keys.length 2) lv' kv' qv ∧ Fr q o w o' w' := by
  obtain ⟨i0, hi, hz0, hz1, hz2⟩ := info_parts infoRKey
  have kh : Hid (∀ w', RMem o q w' b m lv kv qv → Calls Tryz.prog 122 #[.pointer (some ⟨b, 0, none⟩), .int .i64 n] w' fun r w'' => r = .returned (.int .i64 (m.held n)) ∧ w'' = w') := fun w' h' => rHeld_any h' n
  generalize m.held n = hd at *
  have x0 := Blk.made w 102 [.int .i64 kd, .int .i64 i, .string c]
  have hb0 : Below w.heap.size w (w.alloc (.cells #[.int .i64 kd, .int .i64 i, .string c] 102)) := (Below.refl _ _).alloc (Nat.le_refl _) _
  have hA := h.below hb0
  have frA := Fr.of_below (q := q) h.clean hb0
  have hkey : o w.heap.size = (0, 0) := h.clean _ (Nat.le_refl _)
  have hbn : b ≠ w.heap.size := by have := h.blk.lt; omega
  unfold RM.pushed
  go_enter Tryz.func109, Tryz.ntmps109
  go_wp2_with fail
  refine (kh.out _ hA).mono ?_
  rintro e w1 ⟨rfl, hw1⟩
  rw [← hw1] at hA x0 frA
  clear hw1 hb0 kh
  have x1 : Blk w1 w.heap.size 102 [.int .i64 kd, .int .i64 i, .string c] := x0
  have hlt1 := x1.lt
  have y1 := x1.cell (k := 1) (u := .int .i64 i) rfl
  clear x0
  go_wp2_with fail
  have hmd := hA.below (Below.refl _ _).drew
  have frd := frA.below (Below.refl _ _).drew
  have y2 := hmd.keysv
  have hform := hmd.keys.form
  obtain ⟨ar, cr, hrv, -, -⟩ := hform
  have hrown := hmd.keys.1
  subst hrv
  have xA := (x1.below (Below.refl _ _).drew).below ((Below.refl _ _).alloc (Nat.le_refl _) (.cells #[.int .i64 n, .int .i64 i, .string ⟨#[]⟩, .int .i64 0] 99))
  have hSA : (w1.drew.alloc (.cells #[.int .i64 n, .int .i64 i, .string ⟨#[]⟩, .int .i64 0] 99)).cell? ⟨w.heap.size, 1, none⟩ = some (.int .i64 i) := xA.cell rfl
  refine wp_region_noPanic ?_
  refine wp_region_held_drew (S := fun w' => w'.cell? ⟨w.heap.size, 1, none⟩ = some (.int .i64 i)) (by kernel_rfl) y1 (fun hHeld => ?_)
  refine take_at (i := 0) (v := ?_) rfl (by kernel_rfl) (by kernel_rfl) (by kernel_rfl) (fun _ _ _ h => h) (by rfl) ?_ (by assumption) ?_
  rotate_left
  · (intro wx hSw; go_simp; with_reducible rfl)
  simp only [Act.put, List.setIfInBounds_toArray, List.set_cons_zero, List.set_cons_succ]
  refine take_at (i := 1) (v := ?_) rfl (by kernel_rfl) (by kernel_rfl) (by kernel_rfl) (fun _ _ _ h => h) (by rfl) ?_ (by assumption) ?_
  rotate_left
  · (intro wx hSw; go_simp; with_reducible rfl)
  simp only [Act.put, List.setIfInBounds_toArray, List.set_cons_zero, List.set_cons_succ]
  refine take_at (i := 2) (v := ?_) rfl (by kernel_rfl) (by kernel_rfl) (by kernel_rfl) (fun _ _ _ h => h) (by rfl) ?_ (by assumption) ?_
  rotate_left
  · (intro wx hSw; go_simp; with_reducible rfl)
  simp only [Act.put, List.setIfInBounds_toArray, List.set_cons_zero, List.set_cons_succ]
  refine take_at (i := 3) (v := ?_) rfl (by kernel_rfl) (by kernel_rfl) (by kernel_rfl) (fun _ _ _ h => h) (by rfl) ?_ (by assumption) ?_
  rotate_left
  · (intro wx hSw; go_simp; with_reducible rfl)
  simp only [Act.put, List.setIfInBounds_toArray, List.set_cons_zero, List.set_cons_succ]
  refine take_at (i := 5) (v := ?_) rfl (by kernel_rfl) (by kernel_rfl) (by kernel_rfl) (fun _ _ _ h => h) (by rfl) ?_ (by assumption) ?_
  rotate_left
  · (intro wx hSw; go_simp; with_reducible rfl)
  simp only [Act.put, List.setIfInBounds_toArray, List.set_cons_zero, List.set_cons_succ]
  refine take_at (i := 6) (v := ?_) rfl (by kernel_rfl) (by kernel_rfl) (by kernel_rfl) (fun _ _ _ h => h) (by rfl) ?_ (by assumption) ?_
  rotate_left
  · (intro wx hSw; go_simp; with_reducible rfl)
  simp only [Act.put, List.setIfInBounds_toArray, List.set_cons_zero, List.set_cons_succ]
  refine take_at (i := 7) (v := ?_) rfl (by kernel_rfl) (by kernel_rfl) (by kernel_rfl) (fun _ _ _ h => h) (by rfl) ?_ (by assumption) ?_
  rotate_left
  · (intro wx hSw; go_simp; with_reducible rfl)
  simp only [Act.put, List.setIfInBounds_toArray, List.set_cons_zero, List.set_cons_succ]
  refine take_at (i := 8) (v := ?_) rfl (by kernel_rfl) (by kernel_rfl) (by kernel_rfl) (fun _ _ _ h => h) (by rfl) ?_ (by assumption) ?_
  rotate_left
  · (intro wx hSw; go_simp; with_reducible rfl)
  simp only [Act.put, List.setIfInBounds_toArray, List.set_cons_zero, List.set_cons_succ]
  refine two_at (i := 4) (j := 9) rfl rfl (by kernel_rfl) (by rfl) (by rfl) (fun K hK => ?_) (fun K hK => ?_)
  · go_simp
    refine hK.out _ _ y1 ?_
    clear hK K
    try simp only [Act.put, List.setIfInBounds_toArray, List.set_cons_zero, List.set_cons_succ]
    refine only_at (i := 9) rfl (by kernel_rfl) (by rfl) (fun K hK => ?_)
    go_simp
    refine hK.out _ _ hSA ?_
    clear hK K
    refine only_at (i := 10) rfl (by kernel_rfl) (by rfl) (fun K hK => ?_)
    refine wp_append_lies _ _ _ 73 rfl 0 99 i0 (.agg #[.int .i64 0, .int .i64 0, .string ⟨#[]⟩, .int .i64 0]) 4 40 Tryz.underlying73 hi hz0 hz1 hz2 rfl (by omega) (.slice ar m.keys.length cr) m.keys.length (rkeyCells m.keys) rfl (hrown.alloc _) ⟨w1.heap.size, 0, none⟩ 1 1 (rkeyCells [⟨n, i, ⟨#[]⟩, 0⟩]) rfl rfl ?_ (rkeyCells_one _) (by omega) (by unfold maxLen; omega) (by omega) (Nat.zero_le _) _ rfl ?_
    · exact news_rkey w1.drew _ rfl ⟨n, i, ⟨#[]⟩, 0⟩ _
    intro g3 c3 w3 own3 hg3 hat3 hlt3
    have hmA := hmd.alloc (.cells #[.int .i64 n, .int .i64 i, .string ⟨#[]⟩, .int .i64 0] 99)
    have frB : Fr q o w o (w1.drew.alloc (.cells #[.int .i64 n, .int .i64 i, .string ⟨#[]⟩, .int .i64 0] 99)) := frd.below ((Below.refl _ _).alloc (Nat.le_refl _) _)
    have own3' : w3.ownsRow 0 99 4 (.slice (some ⟨g3, 0, none⟩) (m.keys.length + 1) c3) (m.keys ++ [(⟨n, i, ⟨#[]⟩, 0⟩ : RKey)]).length (rkeyCells (m.keys ++ [(⟨n, i, ⟨#[]⟩, 0⟩ : RKey)])) := by
      rw [rkeyCells_append, List.length_append]; exact own3
    have hat3' : (Value.slice ar m.keys.length cr).ownBlock = (Value.slice (some ⟨g3, 0, none⟩) (m.keys.length + 1) c3).ownBlock ∨ (Value.slice (some ⟨g3, 0, none⟩) (m.keys.length + 1) c3).ownBlock = some (w1.drew.alloc (.cells #[.int .i64 n, .int .i64 i, .string ⟨#[]⟩, .int .i64 0] 99)).heap.size := by
      rcases hat3 with e | e
      · exact .inl e
      · right; rw [e]; rfl
    obtain ⟨o4, hm4, fr4⟩ := hmA.pushKey _ _ own3' hg3 hat3'
    have hnr : some w.heap.size ≠ (Value.slice ar m.keys.length cr).ownBlock := by
      intro e
      have := hmd.keys.2 _ e.symm
      rw [hkey] at this
      exact hq (congrArg Prod.fst this).symm
    have x3 : Blk w3 w.heap.size 102 [.int .i64 kd, .int .i64 i, .string c] := x1.keep ((hg3.block _ (by simp; omega) hnr).trans (Below.heap_alloc _ _ _ hlt1))
    have nb : some b ≠ (Value.slice ar m.keys.length cr).ownBlock := by
      intro e
      have := hmd.keys.2 _ e.symm
      rw [hmd.tag] at this
      simp at this
    have b3 : Blk w3 b _ _ := hmA.blk.keep (hg3.block b hmA.blk.lt nb)
    have z2 := b3.cell (k := 54) (u := .slice ar m.keys.length cr) rfl
    have fz := b3.frozen
    have hS3 : w3.cell? ⟨w.heap.size, 1, none⟩ = some (.int .i64 i) := x3.cell rfl
    refine hK.out _ _ hS3 ?_
    clear hK K
    try simp only [Act.put, List.setIfInBounds_toArray, List.set_cons_zero, List.set_cons_succ]
    refine take_at (i := 11) (v := ?_) rfl (by kernel_rfl) (by kernel_rfl) (by kernel_rfl) (fun _ _ _ h => h) (by rfl) ?_ (by assumption) ?_
    rotate_left
    · (intro wx hSw; go_simp; with_reducible rfl)
    simp only [Act.put, List.setIfInBounds_toArray, List.set_cons_zero, List.set_cons_succ]
    refine take_at (i := 12) (v := ?_) rfl (by kernel_rfl) (by kernel_rfl) (by kernel_rfl) (fun _ _ _ h => h) (by rfl) ?_ (by assumption) ?_
    rotate_left
    · (intro wx hSw; go_simp; with_reducible rfl)
    simp only [Act.put, List.setIfInBounds_toArray, List.set_cons_zero, List.set_cons_succ]
    refine only_at (i := 13) rfl (by kernel_rfl) (by rfl) (fun K hK => ?_)
    go_simp
    have x4 := x3.keep (w' := w3.setCell ⟨b, 54, none⟩ (.slice (some ⟨g3, 0, none⟩) (m.keys.length + 1) c3)) (Below.heap_setCell _ _ _ _ (by simpa using hbn.symm))
    refine hK.out _ _ (x4.cell rfl) ?_
    clear hK K
    refine wpAnyH_done (by kernel_rfl) ?_ _
    refine NoPanic.normal ?_
    have frC := frB.trans fr4
    have y1 := x4.cell (k := 2) (u := .string c) rfl
    have z4 := hm4.keysv
    have hlenI : (m.keys.length : Int) ≤ 100000000000 := by omega
    have hget : (m.keys ++ [(⟨n, i, ⟨#[]⟩, 0⟩ : RKey)])[m.keys.length]'(by simp) = ⟨n, i, ⟨#[]⟩, 0⟩ := by simp
    go_wp2_with fail
    refine (rEnd_any hm4 m.keys.length (by simp) n hn (by rw [hget]) 2 (by omega) (by omega) hs).mono ?_
    rintro e w5 ⟨rfl, o5, lv5, hm5, fr5⟩
    go_wp2
    refine bodyPost_end (v := .tuple #[]) (by simp [results, Tryz.results109, go_sem]) rfl ⟨rfl, ?_⟩
    first | exact ⟨o5, lv5, _, hm5, frC.trans fr5⟩ | exact ⟨o5, ⟨lv5, _, hm5⟩, frC.trans fr5⟩
  · go_simp
    refine hK.out _ _ hSA ?_
    clear hK K
    try simp only [Act.put, List.setIfInBounds_toArray, List.set_cons_zero, List.set_cons_succ]
    have y2a := fun ob => (hA.alloc ob).keysv
    refine only_at (i := 4) rfl (by kernel_rfl) (by rfl) (fun K hK => ?_)
    go_simp
    refine hK.out _ _ hSA ?_
    clear hK K
    refine only_at (i := 10) rfl (by kernel_rfl) (by rfl) (fun K hK => ?_)
    refine wp_append_lies _ _ _ 73 rfl 0 99 i0 (.agg #[.int .i64 0, .int .i64 0, .string ⟨#[]⟩, .int .i64 0]) 4 40 Tryz.underlying73 hi hz0 hz1 hz2 rfl (by omega) (.slice ar m.keys.length cr) m.keys.length (rkeyCells m.keys) rfl (hrown.alloc _) ⟨w1.heap.size, 0, none⟩ 1 1 (rkeyCells [⟨n, i, ⟨#[]⟩, 0⟩]) rfl rfl ?_ (rkeyCells_one _) (by omega) (by unfold maxLen; omega) (by omega) (Nat.zero_le _) _ rfl ?_
    · exact news_rkey w1.drew _ rfl ⟨n, i, ⟨#[]⟩, 0⟩ _
    intro g3 c3 w3 own3 hg3 hat3 hlt3
    have hmA := hmd.alloc (.cells #[.int .i64 n, .int .i64 i, .string ⟨#[]⟩, .int .i64 0] 99)
    have frB : Fr q o w o (w1.drew.alloc (.cells #[.int .i64 n, .int .i64 i, .string ⟨#[]⟩, .int .i64 0] 99)) := frd.below ((Below.refl _ _).alloc (Nat.le_refl _) _)
    have own3' : w3.ownsRow 0 99 4 (.slice (some ⟨g3, 0, none⟩) (m.keys.length + 1) c3) (m.keys ++ [(⟨n, i, ⟨#[]⟩, 0⟩ : RKey)]).length (rkeyCells (m.keys ++ [(⟨n, i, ⟨#[]⟩, 0⟩ : RKey)])) := by
      rw [rkeyCells_append, List.length_append]; exact own3
    have hat3' : (Value.slice ar m.keys.length cr).ownBlock = (Value.slice (some ⟨g3, 0, none⟩) (m.keys.length + 1) c3).ownBlock ∨ (Value.slice (some ⟨g3, 0, none⟩) (m.keys.length + 1) c3).ownBlock = some (w1.drew.alloc (.cells #[.int .i64 n, .int .i64 i, .string ⟨#[]⟩, .int .i64 0] 99)).heap.size := by
      rcases hat3 with e | e
      · exact .inl e
      · right; rw [e]; rfl
    obtain ⟨o4, hm4, fr4⟩ := hmA.pushKey _ _ own3' hg3 hat3'
    have hnr : some w.heap.size ≠ (Value.slice ar m.keys.length cr).ownBlock := by
      intro e
      have := hmd.keys.2 _ e.symm
      rw [hkey] at this
      exact hq (congrArg Prod.fst this).symm
    have x3 : Blk w3 w.heap.size 102 [.int .i64 kd, .int .i64 i, .string c] := x1.keep ((hg3.block _ (by simp; omega) hnr).trans (Below.heap_alloc _ _ _ hlt1))
    have nb : some b ≠ (Value.slice ar m.keys.length cr).ownBlock := by
      intro e
      have := hmd.keys.2 _ e.symm
      rw [hmd.tag] at this
      simp at this
    have b3 : Blk w3 b _ _ := hmA.blk.keep (hg3.block b hmA.blk.lt nb)
    have z2 := b3.cell (k := 54) (u := .slice ar m.keys.length cr) rfl
    have fz := b3.frozen
    have hS3 : w3.cell? ⟨w.heap.size, 1, none⟩ = some (.int .i64 i) := x3.cell rfl
    refine hK.out _ _ hS3 ?_
    clear hK K
    try simp only [Act.put, List.setIfInBounds_toArray, List.set_cons_zero, List.set_cons_succ]
    refine take_at (i := 11) (v := ?_) rfl (by kernel_rfl) (by kernel_rfl) (by kernel_rfl) (fun _ _ _ h => h) (by rfl) ?_ (by assumption) ?_
    rotate_left
    · (intro wx hSw; go_simp; with_reducible rfl)
    simp only [Act.put, List.setIfInBounds_toArray, List.set_cons_zero, List.set_cons_succ]
    refine take_at (i := 12) (v := ?_) rfl (by kernel_rfl) (by kernel_rfl) (by kernel_rfl) (fun _ _ _ h => h) (by rfl) ?_ (by assumption) ?_
    rotate_left
    · (intro wx hSw; go_simp; with_reducible rfl)
    simp only [Act.put, List.setIfInBounds_toArray, List.set_cons_zero, List.set_cons_succ]
    refine only_at (i := 13) rfl (by kernel_rfl) (by rfl) (fun K hK => ?_)
    go_simp
    have x4 := x3.keep (w' := w3.setCell ⟨b, 54, none⟩ (.slice (some ⟨g3, 0, none⟩) (m.keys.length + 1) c3)) (Below.heap_setCell _ _ _ _ (by simpa using hbn.symm))
    refine hK.out _ _ (x4.cell rfl) ?_
    clear hK K
    refine wpAnyH_done (by kernel_rfl) ?_ _
    refine NoPanic.normal ?_
    have frC := frB.trans fr4
    have y1 := x4.cell (k := 2) (u := .string c) rfl
    have z4 := hm4.keysv
    have hlenI : (m.keys.length : Int) ≤ 100000000000 := by omega
    have hget : (m.keys ++ [(⟨n, i, ⟨#[]⟩, 0⟩ : RKey)])[m.keys.length]'(by simp) = ⟨n, i, ⟨#[]⟩, 0⟩ := by simp
    go_wp2_with fail
    refine (rEnd_any hm4 m.keys.length (by simp) n hn (by rw [hget]) 2 (by omega) (by omega) hs).mono ?_
    rintro e w5 ⟨rfl, o5, lv5, hm5, fr5⟩
    go_wp2
    refine bodyPost_end (v := .tuple #[]) (by simp [results, Tryz.results109, go_sem]) rfl ⟨rfl, ?_⟩
    first | exact ⟨o5, lv5, _, hm5, frC.trans fr5⟩ | exact ⟨o5, ⟨lv5, _, hm5⟩, frC.trans fr5⟩

def RM.opens (m : RM) (n : Nat) (i : Int) (c : ByteArray) : RM :=
  cond (c.toList == [1]) (cond (decide (4 ≤ m.held n)) ((m.pushed n i).endKey m.keys.length 2) (m.pushed n i)) ((m.pushed n i).endKey m.keys.length 3)

theorem rOpens_any (h : RMem o q w b m lv kv qv) (hq : q ≠ 0) (n : Nat) (hn : n < 4) (kd i : Int) (c : ByteArray) (hs : (m.line n).sent.length ≤ 1000000000000) (hmax : m.keys.length ≤ 100000000000) :
    Calls Tryz.prog 109 #[.pointer (some ⟨b, 0, none⟩), .int .i64 n, .agg #[.int .i64 kd, .int .i64 i, .string c]] w fun r w' => r = .returned (.tuple #[]) ∧ ∃ o' lv' kv', RMem o' q w' b (m.opens n i c) lv' kv' qv ∧ Fr q o w o' w' := by
  unfold RM.opens
  cases hr : (c.toList == [1])
  · exact opens_unknown h hq n hn kd i c hr hs hmax
  · by_cases hh : 4 ≤ m.held n
    · simp only [hh, decide_true, cond_true]
      exact opens_over h hq n hn kd i c hr hh hs hmax
    · simp only [hh, decide_false, cond_true, cond_false]
      exact opens_fine h hq n hn kd i c hr hh hs hmax
end
end Go.Proofs.YtlafkpaljibonaaGreat

namespace Go.Proofs.YtlafkpaljibonaaGreat
open Go.RowKit

/-- The key at place k is leased to the slot s. -/
def RM.leaseAt (m : RM) (k s : Nat) : RM :=
  { m with keys := m.keys.set k { m.key k with is := 2 }, slot := upd m.slot s ⟨3, wrap64 ((m.slot s).served + 1), m.time, (m.slot s).old, k⟩ }

def RM.leaseN (m : RM) : Nat → RM
  | 0 => m
  | n + 1 =>
    match m.back, m.first 2 with
    | k :: _, some s => (m.leaseAt k s).leaseN n
    | _, _ => m

def RM.settle (m : RM) : RM := m.startAll.leaseN 6

theorem RM.cnt_lease (m : RM) (k s : Nat) (h : m.first 2 = some s) : s < 6 ∧ (m.leaseAt k s).cnt 2 = m.cnt 2 - 1 ∧ 0 < m.cnt 2 := by
  obtain ⟨-, hs, hst⟩ := m.fst_some 2 0 6 s h
  refine ⟨by omega, ?_⟩
  have hb : ∀ (j : Nat), 0 ≤ cond ((m.slot j).st == 2) (1 : Int) 0 := fun j => by cases ((m.slot j).st == 2) <;> simp
  have b0 := hb 0
  have b1 := hb 1
  have b2 := hb 2
  have b3 := hb 3
  have b4 := hb 4
  have b5 := hb 5
  rcases s with _ | _ | _ | _ | _ | _ | s
  all_goals first | omega | (simp [RM.cnt, RM.cntTo, upd, RM.leaseAt, hst]; first | omega | (constructor <;> omega))

theorem RM.back_mem (m : RM) {k : Nat} {l : List Nat} (h : m.back = k :: l) : k ∈ m.queue ∧ (m.key k).is = 1 := by
  have : k ∈ m.back := by rw [h]; simp
  simp only [RM.back, List.mem_filter, beq_iff_eq] at this
  exact this

theorem RM.wf_lease {m : RM} (hwf : m.wf) (k s : Nat) (hk : k < m.keys.length) : (m.leaseAt k s).wf := by
  refine ⟨?_, ?_, hwf.ch⟩
  · intro i hi
    have := hwf.q i hi
    simpa [RM.leaseAt] using this
  · intro j hj e
    simp only [RM.leaseAt, List.length_set] at *
    by_cases ej : j = s
    · subst ej; simpa using hk
    · rw [upd_other _ _ ej] at e ⊢
      exact hwf.s j hj e

theorem RM.wf_starts {m : RM} (hwf : m.wf) : m.starts.wf := by
  unfold RM.starts
  cases hf : m.first 0 with
  | none => exact hwf
  | some k =>
    refine ⟨hwf.q, ?_, hwf.ch⟩
    intro j hj e
    by_cases ej : j = k
    · subst ej; simp [startSlot] at e
    · simp only [upd_other _ _ ej] at e ⊢
      exact hwf.s j hj e

theorem RM.wf_startN : ∀ (n : Nat) {m : RM}, m.wf → (m.startN n).wf
  | 0, _, h => h
  | n + 1, m, h => by
    have e : m.startN (n + 1) = cond (!m.set.dyn && decide (6 - m.cnt 0 < m.set.ch)) (m.starts.startN n) m := rfl
    rw [e]
    cases (!m.set.dyn && decide (6 - m.cnt 0 < m.set.ch))
    · exact h
    · exact RM.wf_startN n (RM.wf_starts h)

theorem RM.wf_leaseN : ∀ (n : Nat) {m : RM}, m.wf → (m.leaseN n).wf
  | 0, _, h => h
  | n + 1, m, h => by
    unfold RM.leaseN
    split
    · rename_i k l s hb hs
      exact RM.wf_leaseN n (RM.wf_lease h k s (h.q k (RM.back_mem m hb).1))
    · exact h

theorem RM.wf_settle {m : RM} (h : m.wf) : m.settle.wf := RM.wf_leaseN 6 (RM.wf_startN 6 h)

theorem wcells_lease (m : RM) (lv : Nat → Value) (kv qv : Value) (k : Nat) (hk : k < 6) (s : RSlot) (ho : s.old = (m.slot k).old) :
    ((((wcells m lv kv qv).set (24 + k * 5) (.int .i64 s.st)).set (24 + k * 5 + 2) (.int .i64 s.since)).set (24 + k * 5 + 1) (.int .i64 s.served)).set (24 + k * 5 + 4) (.int .i64 s.key) =
      wcells { m with slot := upd m.slot k s } lv kv qv := by
  obtain ⟨a1, a2, a3, a4, a5⟩ := s
  simp only at ho
  subst ho
  rcases k with _ | _ | _ | _ | _ | _ | k <;> first | rfl | omega

section
variable {o : Nat → Tag} {q : Nat} {w : World} {b : Nat} {m : RM} {lv : Nat → Value} {kv qv : Value}

/-- Four of a slot's five cells are written, as a lease does. -/
theorem RMem.putLease (h : RMem o q w b m lv kv qv) {k : Nat} (hk : k < 6) (s : RSlot) (ho : s.old = (m.slot k).old) :
    let w' := (((w.setCell ⟨b, 24 + k * 5, none⟩ (.int .i64 s.st)).setCell ⟨b, 24 + k * 5 + 2, none⟩ (.int .i64 s.since)).setCell ⟨b, 24 + k * 5 + 1, none⟩ (.int .i64 s.served)).setCell ⟨b, 24 + k * 5 + 4, none⟩ (.int .i64 s.key)
    RMem o q w' b { m with slot := upd m.slot k s } lv kv qv ∧ Fr q o w o w' := by
  intro w'
  have hoth : ∀ g, g ≠ b → w'.heap[g]? = w.heap[g]? := by
    intro g hg
    simp only [w']
    repeat rw [Below.heap_setCell _ _ _ g (by simpa using hg)]
  have hm : RMem o q w' b { m with slot := upd m.slot k s } lv kv qv := by
    refine h.put ?_ (by simp [w', World.setCell]) hoth (fun _ _ => rfl) rfl rfl
    rw [← wcells_lease m lv kv qv k hk s ho]
    exact (((h.blk.set _ _).set _ _).set _ _).set _ _
  exact ⟨hm, h.fr_put hm (by simp [w', World.setCell]) (by simp [w', World.setCell]) (by simp [w', World.setCell]) (by simp [w', World.setCell]) hoth⟩

def RM.kill (m : RM) (k : Nat) : RM := { m with slot := upd m.slot k { m.slot k with st := 4, since := 0 } }

theorem wcells_kill (m : RM) (lv : Nat → Value) (kv qv : Value) (k : Nat) (hk : k < 6) :
    ((wcells m lv kv qv).set (24 + k * 5) (.int .i64 4)).set (24 + k * 5 + 2) (.int .i64 0) = wcells (m.kill k) lv kv qv := by
  rcases k with _ | _ | _ | _ | _ | _ | k <;> first | rfl | omega

theorem RMem.putKill (h : RMem o q w b m lv kv qv) {k : Nat} (hk : k < 6) :
    let w' := (w.setCell ⟨b, 24 + k * 5, none⟩ (.int .i64 4)).setCell ⟨b, 24 + k * 5 + 2, none⟩ (.int .i64 0)
    RMem o q w' b (m.kill k) lv kv qv ∧ Fr q o w o w' := by
  intro w'
  have hoth : ∀ g, g ≠ b → w'.heap[g]? = w.heap[g]? := by
    intro g hg
    simp only [w']
    repeat rw [Below.heap_setCell _ _ _ g (by simpa using hg)]
  have hm : RMem o q w' b (m.kill k) lv kv qv := by
    refine h.put ?_ (by simp [w', World.setCell]) hoth (fun _ _ => rfl) rfl rfl
    rw [← wcells_kill m lv kv qv k hk]
    exact (h.blk.set _ _).set _ _
  exact ⟨hm, h.fr_put hm (by simp [w', World.setCell]) (by simp [w', World.setCell]) (by simp [w', World.setCell]) (by simp [w', World.setCell]) hoth⟩

set_option maxRecDepth 100000 in
set_option maxHeartbeats 1000000 in
theorem rKill_any (h : RMem o q w b m lv kv qv) (k : Nat) (hk : k < 6) :
    Calls Tryz.prog 61 #[.pointer (some ⟨b, 0, none⟩), .int .i64 k] w fun r w' => r = .returned (.tuple #[]) ∧ RMem o q w' b (m.kill k) lv kv qv ∧ Fr q o w o w' := by
  obtain ⟨c0, -, c2, -, -⟩ := h.slotc hk
  have fz := h.frozen
  have hp := h.putKill hk
  go_enter Tryz.func61, Tryz.ntmps61
  go_wp2
  exact bodyPost_end (v := .tuple #[]) (by simp [results, Tryz.results61, go_sem]) rfl ⟨rfl, hp⟩

/-- Of the first n slots those that the key at place a was leased to are killed. -/
def RM.abortTo (m : RM) (a : Nat) : Nat → RM
  | 0 => m
  | n + 1 => cond ((m.abortTo a n).live n && (((m.abortTo a n).slot n).key == a)) ((m.abortTo a n).kill n) (m.abortTo a n)

theorem RM.wf_kill {m : RM} (hwf : m.wf) (k : Nat) : (m.kill k).wf := by
  refine ⟨hwf.q, ?_, hwf.ch⟩
  intro j hj e
  by_cases ej : j = k
  · subst ej; simp [RM.kill] at e
  · simp only [RM.kill, upd_other _ _ ej] at e ⊢
    exact hwf.s j hj e

theorem RM.abortTo_wf (a : Nat) : ∀ (n : Nat) {m : RM}, m.wf → (m.abortTo a n).wf
  | 0, _, h => h
  | n + 1, m, h => by
    have ih := RM.abortTo_wf a n h
    unfold RM.abortTo
    cases (m.abortTo a n).live n && (((m.abortTo a n).slot n).key == a)
    · exact ih
    · exact RM.wf_kill ih n

theorem RM.abortTo_same (m : RM) (a : Nat) : ∀ (n : Nat), (m.abortTo a n).set = m.set ∧ (m.abortTo a n).keys = m.keys ∧ (m.abortTo a n).queue = m.queue ∧ (m.abortTo a n).line = m.line ∧ (m.abortTo a n).time = m.time
  | 0 => ⟨rfl, rfl, rfl, rfl, rfl⟩
  | n + 1 => by
    have ih := RM.abortTo_same m a n
    unfold RM.abortTo
    cases (m.abortTo a n).live n && (((m.abortTo a n).slot n).key == a)
    · exact ih
    · exact ih

end
end Go.Proofs.YtlafkpaljibonaaGreat
