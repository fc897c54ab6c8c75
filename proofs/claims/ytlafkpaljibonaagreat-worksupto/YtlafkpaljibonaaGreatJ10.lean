import Derived.Test.YtlafkpaljibonaaGreatJ9
namespace Go.Proofs.YtlafkpaljibonaaGreat
open Go.RowKit

section
variable {o : Nat → Tag} {q : Nat} {w : World} {b : Nat} {m : RM} {lv : Nat → Value} {kv qv : Value}

set_option maxRecDepth 100000 in
set_option maxHeartbeats 1000000 in
/-- take of a Begin. -/
theorem rTake_begin (h : RMem o q w b m lv kv qv) (hq : q ≠ 0) (n : Nat) (hn : n < 4) (i : Int) (c : ByteArray) (a : Int) (hs : (m.line n).sent.length ≤ 1000000000000) (hmax : m.keys.length ≤ 100000000000) :
    Calls Tryz.prog 85 #[.pointer (some ⟨b, 0, none⟩), .int .i64 n, .agg #[.int .i64 1, .int .i64 i, .string c], .int .i64 a] w fun r w' => r = .returned (.tuple #[]) ∧ ∃ o' lv' kv', RMem o' q w' b (m.opens n i c) lv' kv' qv ∧ Fr q o w o' w' := by
  have hb0 : Below w.heap.size w (w.alloc (.cells #[.int .i64 1, .int .i64 i, .string c] 102)) := (Below.refl _ _).alloc (Nat.le_refl _) _
  go_enter Tryz.func85, Tryz.ntmps85
  go_wp2_with fail
  refine (rOpens_any (h.below hb0) hq n hn 1 i c hs hmax).mono ?_
  rintro e w1 ⟨rfl, o1, lv1, kv1, hm1, fr1⟩
  go_wp2
  exact bodyPost_ret (v := .tuple #[]) (by simp [results, Tryz.results85, go_sem]) rfl ⟨rfl, o1, lv1, kv1, hm1, (Fr.of_below (q := q) h.clean hb0).trans fr1⟩

set_option maxRecDepth 100000 in
set_option maxHeartbeats 1000000 in
/-- take of what is of no key. -/
theorem rTake_none (h : RMem o q w b m lv kv qv) (n : Nat) (kd i : Int) (c : ByteArray) (h1 : kd ≠ 1) :
    Calls Tryz.prog 85 #[.pointer (some ⟨b, 0, none⟩), .int .i64 n, .agg #[.int .i64 kd, .int .i64 i, .string c], .int .i64 (-1)] w fun r w' => r = .returned (.tuple #[]) ∧ RMem o q w' b m lv kv qv ∧ Fr q o w o w' := by
  have hb0 : Below w.heap.size w (w.alloc (.cells #[.int .i64 kd, .int .i64 i, .string c] 102)) := (Below.refl _ _).alloc (Nat.le_refl _) _
  have h1' : (kd == 1) = false := by simpa using h1
  go_enter Tryz.func85, Tryz.ntmps85
  go_wp2
  exact bodyPost_ret (v := .tuple #[]) (by simp [results, Tryz.results85, go_sem]) rfl ⟨rfl, h.below hb0, Fr.of_below (q := q) h.clean hb0⟩

set_option maxRecDepth 100000 in
set_option maxHeartbeats 2000000 in
/-- take of an Abort. -/
theorem rTake_abort (h : RMem o q w b m lv kv qv) (hwf : m.wf) (n : Nat) (hn : n < 4) (i : Int) (c : ByteArray) (a : Nat) (ha : a < m.keys.length) (hcn : m.keys[a].conn = n) (hs : (m.line n).sent.length ≤ 1000000000000) :
    Calls Tryz.prog 85 #[.pointer (some ⟨b, 0, none⟩), .int .i64 n, .agg #[.int .i64 2, .int .i64 i, .string c], .int .i64 a] w fun r w' => r = .returned (.tuple #[]) ∧ ∃ o' lv', RMem o' q w' b ((m.abortTo a 6).endKey a 5) lv' kv qv ∧ Fr q o w o' w' := by
  have hb0 : Below w.heap.size w (w.alloc (.cells #[.int .i64 2, .int .i64 i, .string c] 102)) := (Below.refl _ _).alloc (Nat.le_refl _) _
  have x0 := Blk.made w 102 [.int .i64 2, .int .i64 i, .string c]
  have hmax : (m.keys.length : Int) ≤ 9223372036854775807 := by obtain ⟨_, _, -, hkn, -⟩ := h.klist; exact hkn
  go_enter Tryz.func85, Tryz.ntmps85
  go_wp2
  go_loopw [8] (fun j w' => ∃ k : Nat, k ≤ 6 ∧ j = .int .i64 k ∧ RMem o q w' b (m.abortTo a k) lv kv qv ∧ Fr q o w o w') (fun j _ => 6 - (intOf j).toNat)
  case atStart => exact ⟨0, by omega, rfl, h.below hb0, Fr.of_below (q := q) h.clean hb0⟩
  case round =>
    obtain ⟨k, hk, rfl, hm, hfr⟩ := hrel
    clear x0 hb0 h
    by_cases hlt : k < 6
    · have hwfk := RM.abortTo_wf a k hwf
      have HS : Hid (m.abortTo a (k + 1) = cond ((m.abortTo a k).live k && (((m.abortTo a k).slot k).key == a)) ((m.abortTo a k).kill k) (m.abortTo a k)) := rfl
      generalize m.abortTo a k = M at *
      have kl : Hid (∀ w', RMem o q w' b M lv kv qv → Calls Tryz.prog 59 #[.pointer (some ⟨b, 0, none⟩), .int .i64 (k : Nat)] w' fun r w'' => r = .returned (.bool (M.live k)) ∧ Below w'.heap.size w' w'') := fun w' h' => live_any h' hwfk k hlt
      cases hl : M.live k
      · rw [hl] at kl
        have HS2 : Hid (m.abortTo a (k + 1) = M) := by have := HS.out; rw [hl] at this; exact this
        clear HS hl hwfk
        go_wp2_with fail
        refine (kl.out _ hm).mono ?_
        rintro e w1 ⟨rfl, hb1⟩
        have hm1 := hm.below hb1
        go_wp2
        exact ⟨⟨k + 1, by omega, by go_num, by rw [HS2.out]; exact hm1, hfr.below hb1⟩, by simp [intOf]; omega⟩
      · rw [hl] at kl
        by_cases hka : (M.slot k).key = a
        · have HS2 : Hid (m.abortTo a (k + 1) = M.kill k) := by have := HS.out; rw [hl, hka] at this; show _ = _; simpa using this
          clear HS hl hwfk
          go_wp2_with fail
          refine (kl.out _ hm).mono ?_
          rintro e w1 ⟨rfl, hb1⟩
          have hm1 := hm.below hb1
          obtain ⟨-, -, -, -, c4⟩ := hm1.slotc hlt
          rw [hka] at c4
          clear hka
          go_wp2_with fail
          refine (rKill_any hm1 k hlt).mono ?_
          rintro e w2 ⟨rfl, hm2, fr2⟩
          go_wp2
          exact ⟨⟨k + 1, by omega, by go_num, by rw [HS2.out]; exact hm2, (hfr.below hb1).trans fr2⟩, by simp [intOf]; omega⟩
        · have hka' : (((M.slot k).key : Int) == (a : Int)) = false := by rw [beq_eq_false_iff_ne]; omega
          have HS2 : Hid (m.abortTo a (k + 1) = M) := by
            have := HS.out
            rw [hl, show ((M.slot k).key == a) = false from by simpa using hka] at this; exact this
          clear HS hl hwfk
          go_wp2_with fail
          refine (kl.out _ hm).mono ?_
          rintro e w1 ⟨rfl, hb1⟩
          have hm1 := hm.below hb1
          obtain ⟨-, -, -, -, c4⟩ := hm1.slotc hlt
          generalize (M.slot k).key = key at *
          go_wp2
          exact ⟨⟨k + 1, by omega, by go_num, by rw [HS2.out]; exact hm1, hfr.below hb1⟩, by simp [intOf]; omega⟩
    · have : k = 6 := by omega
      subst this
      obtain ⟨e1, e2, e3, e4, e5⟩ := m.abortTo_same a 6
      have ha' : a < (m.abortTo a 6).keys.length := by rw [e2]; exact ha
      have hcn' : (m.abortTo a 6).keys[a].conn = n := by simp only [e2]; exact hcn
      have hs' : ((m.abortTo a 6).line n).sent.length ≤ 1000000000000 := by rw [e4]; exact hs
      clear e1 e2 e3 e4 e5
      go_wp2_with fail
      refine (rEnd_any hm a ha' n hn hcn' 5 (by omega) (by omega) hs').mono ?_
      rintro e w1 ⟨rfl, o1, lv1, hm1, fr1⟩
      go_wp2
      exact bodyPost_ret (v := .tuple #[]) (by simp [results, Tryz.results85, go_sem]) rfl ⟨rfl, o1, lv1, hm1, hfr.trans fr1⟩
end
end Go.Proofs.YtlafkpaljibonaaGreat

namespace Go.Proofs.YtlafkpaljibonaaGreat
open Go.RowKit

def RM.addBody (m : RM) (a : Nat) (c : ByteArray) : RM := { m with keys := m.keys.set a { m.key a with body := (m.key a).body ++ c } }
def RM.waitsAt (m : RM) (a : Nat) : RM := { m with keys := m.keys.set a { m.key a with is := 1 }, queue := m.queue ++ [a] }

section
variable {o : Nat → Tag} {q : Nat} {w : World} {b : Nat} {m : RM} {lv : Nat → Value} {kv qv : Value}

set_option maxRecDepth 100000 in
set_option maxHeartbeats 1000000 in
/-- take of an In of a key that does not collect. -/
theorem rTake_in_skip (h : RMem o q w b m lv kv qv) (n : Nat) (i : Int) (c : ByteArray) (a : Nat) (ha : a < m.keys.length) (hs : m.keys[a].is ≠ 0) :
    Calls Tryz.prog 85 #[.pointer (some ⟨b, 0, none⟩), .int .i64 n, .agg #[.int .i64 5, .int .i64 i, .string c], .int .i64 a] w fun r w' => r = .returned (.tuple #[]) ∧ RMem o q w' b m lv kv qv ∧ Fr q o w o w' := by
  have hb0 : Below w.heap.size w (w.alloc (.cells #[.int .i64 5, .int .i64 i, .string c] 102)) := (Below.refl _ _).alloc (Nat.le_refl _) _
  have x0 := Blk.made w 102 [.int .i64 5, .int .i64 i, .string c]
  have hA := h.below hb0
  have frA := Fr.of_below (q := q) h.clean hb0
  obtain ⟨ak, ck, hkv, hkn, hrow⟩ := hA.klist
  subst hkv
  obtain ⟨g, rfl, hg, hgb, hgo, fg, c0, c1, c2, c3⟩ := hrow a ha
  have z0 := hA.keysv
  have haI : (a : Int) < m.keys.length := by omega
  clear hrow
  have hs' : (m.keys[a].is == 0) = false := by simpa using hs
  go_enter Tryz.func85, Tryz.ntmps85
  go_wp2
  exact bodyPost_ret (v := .tuple #[]) (by simp [results, Tryz.results85, go_sem]) rfl ⟨rfl, hA, frA⟩

set_option maxRecDepth 100000 in
set_option maxHeartbeats 4000000 in
/-- take of an In with some Content, of a key that collects. -/
theorem rTake_in_more (h : RMem o q w b m lv kv qv) (n : Nat) (hn : n < 4) (i : Int) (c : ByteArray) (a : Nat) (ha : a < m.keys.length) (hs : m.keys[a].is = 0) (hcn : m.keys[a].conn = n) (hc : (c.toList == []) = false) (hsz : m.keys[a].body.size + c.size ≤ 1000000000) (hsent : (m.line n).sent.length ≤ 1000000000000) :
    Calls Tryz.prog 85 #[.pointer (some ⟨b, 0, none⟩), .int .i64 n, .agg #[.int .i64 5, .int .i64 i, .string c], .int .i64 a] w fun r w' => r = .returned (.tuple #[]) ∧ ∃ o' lv', RMem o' q w' b (cond (decide (500 < m.keys[a].body.size + c.size)) ((m.addBody a c).endKey a 4) (m.addBody a c)) lv' kv qv ∧ Fr q o w o' w' := by
  have hb0 : Below w.heap.size w (w.alloc (.cells #[.int .i64 5, .int .i64 i, .string c] 102)) := (Below.refl _ _).alloc (Nat.le_refl _) _
  have x0 := Blk.made w 102 [.int .i64 5, .int .i64 i, .string c]
  have hA := h.below hb0
  have frA := Fr.of_below (q := q) h.clean hb0
  obtain ⟨ak, ck, hkv, hkn, hrow⟩ := hA.klist
  subst hkv
  obtain ⟨g, rfl, hg, hgb, hgo, fg, c0, c1, c2, c3⟩ := hrow a ha
  have z0 := hA.keysv
  have haI : (a : Int) < m.keys.length := by omega
  clear hrow
  rw [hs] at c3
  have hke := m.key_eq ha
  have hadd : m.addBody a c = { m with keys := m.keys.set a { m.keys[a] with body := m.keys[a].body ++ c } } := by simp only [RM.addBody, hke]
  have hcells := rkeyCells_body m.keys a ha (m.keys[a].body ++ c)
  rw [hadd]
  obtain ⟨L, hL⟩ : ∃ L, m.keys.set a { m.keys[a] with body := m.keys[a].body ++ c } = L := ⟨_, rfl⟩
  have hlen : L.length = m.keys.length := by rw [← hL]; simp
  have hget : L[a]? = some { m.keys[a] with body := m.keys[a].body ++ c } := by rw [← hL]; simp [ha]
  rw [hL] at hcells
  rw [hL]
  have haL : a < L.length := by omega
  have hgL : L[a].conn = n ∧ L[a].body = m.keys[a].body ++ c := by
    rw [List.getElem?_eq_getElem haL] at hget
    have e := Option.some.inj hget
    rw [e]
    exact ⟨hcn, rfl⟩
  have HC : Hid _ := hcells
  have HG : Hid _ := hgL
  clear hcells hget hadd hke hs hcn hgL hL
  generalize m.keys[a].body = bd at *
  have hcat : ¬ (9223372036854775807 < bd.size + c.size) := by omega
  have hne : w.heap.size ≠ g := by
    rintro rfl
    have := h.clean _ (Nat.le_refl w.heap.size)
    rw [hgo] at this
    simp at this
  have hne' : g ≠ w.heap.size := fun e => hne e.symm
  have hgb' : b ≠ g := fun e => hgb e.symm
  have y2 := x0.cell (k := 2) (u := .string c) rfl
  go_enter Tryz.func85, Tryz.ntmps85
  go_wp2_with fail
  have x0' : Blk (w.alloc (.cells #[.int .i64 5, .int .i64 i, .string c] 102)) w.heap.size 102 [.int .i64 5, .int .i64 i, .string c] := x0
  generalize w.alloc (.cells #[.int .i64 5, .int .i64 i, .string c] 102) = w0 at *
  refine wp_region_noPanic ?_
  refine wp_region_held_drew (S := fun w' => w'.cell? ⟨b, 54, none⟩ = some (.slice (some ⟨g, 0, none⟩) m.keys.length ck) ∧ w'.cell? ⟨w.heap.size, 2, none⟩ = some (.string c)) (by kernel_rfl) ⟨z0, y2⟩ (fun hHeld => ?_)
  refine take_at (i := 0) (v := ?_) rfl (by kernel_rfl) (by kernel_rfl) (by kernel_rfl) (fun _ _ _ h => h) (by rfl) ?_ (by assumption) ?_
  rotate_left
  · (intro wx hSw; obtain ⟨x0, x1⟩ := hSw; go_simp; with_reducible rfl)
  simp only [Act.put, List.setIfInBounds_toArray, List.set_cons_zero, List.set_cons_succ]
  refine take_at (i := 1) (v := ?_) rfl (by kernel_rfl) (by kernel_rfl) (by kernel_rfl) (fun _ _ _ h => h) (by rfl) ?_ (by assumption) ?_
  rotate_left
  · (intro wx hSw; obtain ⟨x0, x1⟩ := hSw; go_simp; with_reducible rfl)
  simp only [Act.put, List.setIfInBounds_toArray, List.set_cons_zero, List.set_cons_succ]
  refine take_at (i := 2) (v := ?_) rfl (by kernel_rfl) (by kernel_rfl) (by kernel_rfl) (fun _ _ _ h => h) (by rfl) ?_ (by assumption) ?_
  rotate_left
  · (intro wx hSw; obtain ⟨x0, x1⟩ := hSw; go_simp; with_reducible rfl)
  simp only [Act.put, List.setIfInBounds_toArray, List.set_cons_zero, List.set_cons_succ]
  refine take_at (i := 3) (v := ?_) rfl (by kernel_rfl) (by kernel_rfl) (by kernel_rfl) (fun _ _ _ h => h) (by rfl) ?_ (by assumption) ?_
  rotate_left
  · (intro wx hSw; obtain ⟨x0, x1⟩ := hSw; go_simp; with_reducible rfl)
  simp only [Act.put, List.setIfInBounds_toArray, List.set_cons_zero, List.set_cons_succ]
  refine take_at (i := 4) (v := ?_) rfl (by kernel_rfl) (by kernel_rfl) (by kernel_rfl) (fun _ _ _ h => h) (by rfl) ?_ (by assumption) ?_
  rotate_left
  · (intro wx hSw; obtain ⟨x0, x1⟩ := hSw; go_simp; with_reducible rfl)
  simp only [Act.put, List.setIfInBounds_toArray, List.set_cons_zero, List.set_cons_succ]
  refine take_at (i := 5) (v := ?_) rfl (by kernel_rfl) (by kernel_rfl) (by kernel_rfl) (fun _ _ _ h => h) (by rfl) ?_ (by assumption) ?_
  rotate_left
  · (intro wx hSw; obtain ⟨x0, x1⟩ := hSw; go_simp; with_reducible rfl)
  simp only [Act.put, List.setIfInBounds_toArray, List.set_cons_zero, List.set_cons_succ]
  refine take_at (i := 6) (v := ?_) rfl (by kernel_rfl) (by kernel_rfl) (by kernel_rfl) (fun _ _ _ h => h) (by rfl) ?_ (by assumption) ?_
  rotate_left
  · (intro wx hSw; obtain ⟨x0, x1⟩ := hSw; go_simp; with_reducible rfl)
  simp only [Act.put, List.setIfInBounds_toArray, List.set_cons_zero, List.set_cons_succ]
  refine take_at (i := 7) (v := ?_) rfl (by kernel_rfl) (by kernel_rfl) (by kernel_rfl) (fun _ _ _ h => h) (by rfl) ?_ (by assumption) ?_
  rotate_left
  · (intro wx hSw; obtain ⟨x0, x1⟩ := hSw; go_simp; with_reducible rfl)
  simp only [Act.put, List.setIfInBounds_toArray, List.set_cons_zero, List.set_cons_succ]
  refine take_at (i := 8) (v := ?_) rfl (by kernel_rfl) (by kernel_rfl) (by kernel_rfl) (fun _ _ _ h => h) (by rfl) ?_ (by assumption) ?_
  rotate_left
  · (intro wx hSw; obtain ⟨x0, x1⟩ := hSw; go_simp; with_reducible rfl)
  simp only [Act.put, List.setIfInBounds_toArray, List.set_cons_zero, List.set_cons_succ]
  refine take_at (i := 9) (v := ?_) rfl (by kernel_rfl) (by kernel_rfl) (by kernel_rfl) (fun _ _ _ h => h) (by rfl) ?_ (by assumption) ?_
  rotate_left
  · (intro wx hSw; obtain ⟨x0, x1⟩ := hSw; go_simp; with_reducible rfl)
  simp only [Act.put, List.setIfInBounds_toArray, List.set_cons_zero, List.set_cons_succ]
  refine take_at (i := 10) (v := ?_) rfl (by kernel_rfl) (by kernel_rfl) (by kernel_rfl) (fun _ _ _ h => h) (by rfl) ?_ (by assumption) ?_
  rotate_left
  · (intro wx hSw; obtain ⟨x0, x1⟩ := hSw; go_simp; with_reducible rfl)
  simp only [Act.put, List.setIfInBounds_toArray, List.set_cons_zero, List.set_cons_succ]
  refine take_at (i := 11) (v := ?_) rfl (by kernel_rfl) (by kernel_rfl) (by kernel_rfl) (fun _ _ _ h => h) (by rfl) ?_ (by assumption) ?_
  rotate_left
  · (intro wx hSw; obtain ⟨x0, x1⟩ := hSw; go_simp; with_reducible rfl)
  simp only [Act.put, List.setIfInBounds_toArray, List.set_cons_zero, List.set_cons_succ]
  refine take_at (i := 13) (v := ?_) rfl (by kernel_rfl) (by kernel_rfl) (by kernel_rfl) (fun _ _ _ h => h) (by rfl) ?_ (by assumption) ?_
  rotate_left
  · (intro wx hSw; obtain ⟨x0, x1⟩ := hSw; go_simp; with_reducible rfl)
  simp only [Act.put, List.setIfInBounds_toArray, List.set_cons_zero, List.set_cons_succ]
  refine take_at (i := 14) (v := ?_) rfl (by kernel_rfl) (by kernel_rfl) (by kernel_rfl) (fun _ _ _ h => h) (by rfl) ?_ (by assumption) ?_
  rotate_left
  · (intro wx hSw; obtain ⟨x0, x1⟩ := hSw; go_simp; with_reducible rfl)
  simp only [Act.put, List.setIfInBounds_toArray, List.set_cons_zero, List.set_cons_succ]
  refine only_at (i := 12) rfl (by kernel_rfl) (by rfl) (fun K hK => ?_)
  go_simp
  refine hK.out _ _ ⟨z0, y2⟩ ?_
  clear hK K hHeld
  have hHeld : w0.drew.cell? ⟨b, 54, none⟩ = some (.slice (some ⟨g, 0, none⟩) m.keys.length ck) ∧ w0.drew.cell? ⟨w.heap.size, 2, none⟩ = some (.string c) := ⟨z0, y2⟩
  try simp only [Act.put, List.setIfInBounds_toArray, List.set_cons_zero, List.set_cons_succ]
  refine take_at (i := 15) (v := ?_) rfl (by kernel_rfl) (by kernel_rfl) (by kernel_rfl) (fun _ _ _ h => h) (by rfl) ?_ (by assumption) ?_
  rotate_left
  · (intro wx hSw; obtain ⟨x0, x1⟩ := hSw; go_simp; with_reducible rfl)
  simp only [Act.put, List.setIfInBounds_toArray, List.set_cons_zero, List.set_cons_succ]
  refine take_at (i := 16) (v := ?_) rfl (by kernel_rfl) (by kernel_rfl) (by kernel_rfl) (fun _ _ _ h => h) (by rfl) ?_ (by assumption) ?_
  rotate_left
  · (intro wx hSw; obtain ⟨x0, x1⟩ := hSw; go_simp; with_reducible rfl)
  simp only [Act.put, List.setIfInBounds_toArray, List.set_cons_zero, List.set_cons_succ]
  refine take_at (i := 17) (v := ?_) rfl (by kernel_rfl) (by kernel_rfl) (by kernel_rfl) (fun _ _ _ h => h) (by rfl) ?_ (by assumption) ?_
  rotate_left
  · (intro wx hSw; obtain ⟨x0, x1⟩ := hSw; go_simp; with_reducible rfl)
  simp only [Act.put, List.setIfInBounds_toArray, List.set_cons_zero, List.set_cons_succ]
  refine only_at (i := 18) rfl (by kernel_rfl) (by rfl) (fun K hK => ?_)
  go_simp
  obtain ⟨hm3, fr3⟩ := (hA.below (Below.refl _ _).drew).setKey rfl (a * 4 + 2) (.string (bd ++ c)) L hlen HC.out
  have frB := (frA.below (Below.refl _ _).drew).trans fr3
  have x3 : Blk (w0.drew.setCell ⟨g, a * 4 + 2, none⟩ (.string (bd ++ c))) w.heap.size 102 [.int .i64 5, .int .i64 i, .string c] := x0'.keep (Below.heap_setCell _ _ _ _ (by simpa using hne))
  refine hK.out _ (w0.drew.setCell ⟨g, a * 4 + 2, none⟩ (.string (bd ++ c))) ⟨hm3.keysv, x3.cell rfl⟩ ?_
  clear hK K
  refine wpAnyH_done (by kernel_rfl) ?_ _
  refine NoPanic.normal ?_
  clear z0 y2 c0 c1 c2 c3 fg hHeld
  generalize w0.drew.setCell ⟨g, a * 4 + 2, none⟩ (.string (bd ++ c)) = w3 at *
  have z3 := hm3.keysv
  obtain ⟨ak', ck', e', -, hrow'⟩ := hm3.klist
  simp only [hlen, Value.slice.injEq, true_and] at e'
  obtain ⟨rfl, rfl⟩ := e'
  obtain ⟨g', e2, -, -, -, -, -, -, d2, -⟩ := hrow' a haL
  simp only [Option.some.injEq, Addr.mk.injEq, and_true] at e2
  subst e2
  rw [HG.out.2] at d2
  clear hrow'
  by_cases h5 : 500 < bd.size + c.size
  · have h5I : (500 : Int) < (bd.size : Int) + (c.size : Int) := by omega
    go_wp2_with fail
    refine (rEnd_any hm3 a haL n hn HG.out.1 4 (by omega) (by omega) hsent).mono ?_
    rintro e w4 ⟨rfl, o4, lv4, hm4, fr4⟩
    go_wp2
    refine bodyPost_ret (v := .tuple #[]) (by simp [results, Tryz.results85, go_sem]) rfl ⟨rfl, ?_⟩
    first | exact ⟨o4, lv4, hm4, frB.trans fr4⟩ | (simp only [h5, decide_true, cond_true]; exact ⟨o4, lv4, hm4, frB.trans fr4⟩) | (simp [h5]; exact ⟨o4, ⟨lv4, hm4⟩, frB.trans fr4⟩)
  · have h5I : ¬ (500 : Int) < (bd.size : Int) + (c.size : Int) := by omega
    go_wp2
    refine bodyPost_ret (v := .tuple #[]) (by simp [results, Tryz.results85, go_sem]) rfl ⟨rfl, ?_⟩
    first | exact ⟨o, ⟨lv, hm3⟩, frB⟩ | exact ⟨o, lv, hm3, frB⟩

set_option maxRecDepth 100000 in
set_option maxHeartbeats 2000000 in
/-- take of an In with no Content, of a key that collects: there is no room. -/
theorem rTake_in_over (h : RMem o q w b m lv kv qv) (hwf : m.wf) (hqt : m.first 2 = none) (n : Nat) (hn : n < 4) (i : Int) (c : ByteArray) (a : Nat) (ha : a < m.keys.length) (hs : m.keys[a].is = 0) (hcn : m.keys[a].conn = n) (hc : (c.toList == []) = true) (hmax : m.queue.length ≤ 1000000000000) (hsent : (m.line n).sent.length ≤ 1000000000000) (hr : m.set.bl ≤ (m.back.length : Int)) :
    Calls Tryz.prog 85 #[.pointer (some ⟨b, 0, none⟩), .int .i64 n, .agg #[.int .i64 5, .int .i64 i, .string c], .int .i64 a] w fun r w' => r = .returned (.tuple #[]) ∧ ∃ o' lv', RMem o' q w' b (m.endKey a 2) lv' kv qv ∧ Fr q o w o' w' := by
  have kf : Hid (∀ w', RMem o q w' b m lv kv qv → Calls Tryz.prog 70 #[.pointer (some ⟨b, 0, none⟩), .int .i64 2] w' fun r w'' => r = .returned (.int .i64 (-1)) ∧ w'' = w') := fun w' h' => by
    have := first_slot h' 2
    rw [hqt] at this
    exact this
  have kb : Hid (∀ w', RMem o q w' b m lv kv qv → Calls Tryz.prog 69 #[.pointer (some ⟨b, 0, none⟩)] w' fun r w'' => ∃ v, r = .returned v ∧ w''.ownsRow w'.heap.size 3 1 v m.back.length (numCells m.back) ∧ Below w'.heap.size w' w'') := fun w' h' => rback_any h' hwf hmax
  have hb0 : Below w.heap.size w (w.alloc (.cells #[.int .i64 5, .int .i64 i, .string c] 102)) := (Below.refl _ _).alloc (Nat.le_refl _) _
  have x0 := Blk.made w 102 [.int .i64 5, .int .i64 i, .string c]
  have hA := h.below hb0
  have frA := Fr.of_below (q := q) h.clean hb0
  obtain ⟨ak, ck, hkv, hkn, hrow⟩ := hA.klist
  subst hkv
  obtain ⟨g, rfl, hg, hgb, hgo, fg, c0, c1, c2, c3⟩ := hrow a ha
  have z0 := hA.keysv
  have haI : (a : Int) < m.keys.length := by omega
  clear hrow
  rw [hs] at c3
  clear hs
  go_enter Tryz.func85, Tryz.ntmps85
  go_wp2_with fail
  refine (kb.out _ hA).mono ?_
  rintro e w1 ⟨v, rfl, own, hb1⟩
  obtain ⟨av, cv, hv, hln, -⟩ := own_slice own
  subst hv
  have hm1 := hA.below hb1
  have fr1 := frA.below hb1
  go_wp2_with fail
  refine (kf.out _ hm1).mono ?_
  rintro e w2 ⟨rfl, rfl⟩
  have cb := hm1.blc
  clear c0 c1 c2 c3 z0 fg
  go_wp2_with fail
  refine (rEnd_any hm1 a ha n hn hcn 2 (by omega) (by omega) hsent).mono ?_
  rintro e w3 ⟨rfl, o3, lv3, hm3, fr3⟩
  go_wp2
  refine bodyPost_ret (v := .tuple #[]) (by simp [results, Tryz.results85, go_sem]) rfl ⟨rfl, ?_⟩
  first | exact ⟨o3, lv3, hm3, fr1.trans fr3⟩ | exact ⟨o3, ⟨lv3, hm3⟩, fr1.trans fr3⟩
end
end Go.Proofs.YtlafkpaljibonaaGreat

namespace Go.Proofs.YtlafkpaljibonaaGreat
open Go.RowKit

section
variable {o : Nat → Tag} {q : Nat} {w : World} {b : Nat} {m : RM} {lv : Nat → Value} {kv qv : Value}

set_option maxRecDepth 100000 in
set_option maxHeartbeats 4000000 in
/-- take of an In with no Content, of a key that collects: it waits: no slot is Idle, but there is room. -/
theorem rTake_in_wait_room (h : RMem o q w b m lv kv qv) (hwf : m.wf) (n : Nat) (i : Int) (c : ByteArray) (a : Nat) (ha : a < m.keys.length) (hs : m.keys[a].is = 0) (hc : (c.toList == []) = true) (hmax : m.queue.length ≤ 100000000000) (hfr : m.first 2 = none) (hr : ¬ m.set.bl ≤ (m.back.length : Int)) :
    Calls Tryz.prog 85 #[.pointer (some ⟨b, 0, none⟩), .int .i64 n, .agg #[.int .i64 5, .int .i64 i, .string c], .int .i64 a] w fun r w' => r = .returned (.tuple #[]) ∧ ∃ o' qv', RMem o' q w' b (m.waitsAt a) lv kv qv' ∧ Fr q o w o' w' := by
  obtain ⟨i0, hi, hz0, hz1, hz2⟩ := info_parts infoInt
  have kf : Hid (∀ w', RMem o q w' b m lv kv qv → Calls Tryz.prog 70 #[.pointer (some ⟨b, 0, none⟩), .int .i64 2] w' fun r w'' => r = .returned (.int .i64 (-1)) ∧ w'' = w') := fun w' h' => by
    have := first_slot h' 2
    rw [hfr] at this
    exact this
  have kb : Hid (∀ w', RMem o q w' b m lv kv qv → Calls Tryz.prog 69 #[.pointer (some ⟨b, 0, none⟩)] w' fun r w'' => ∃ v, r = .returned v ∧ w''.ownsRow w'.heap.size 3 1 v m.back.length (numCells m.back) ∧ Below w'.heap.size w' w'') := fun w' h' => rback_any h' hwf (by omega)
  have hke := m.key_eq ha
  have hW : m.waitsAt a = { m with keys := m.keys.set a { m.keys[a] with is := 1 }, queue := m.queue ++ [a] } := by simp only [RM.waitsAt, hke]
  rw [hW]
  have hcells := rkeyCells_is m.keys a ha 1
  obtain ⟨L, hL⟩ : ∃ L, m.keys.set a { m.keys[a] with is := 1 } = L := ⟨_, rfl⟩
  have hlen : L.length = m.keys.length := by rw [← hL]; simp
  rw [hL] at hcells
  rw [hL]
  have HC : Hid _ := hcells
  clear hcells hL hW hke
  have hb0 : Below w.heap.size w (w.alloc (.cells #[.int .i64 5, .int .i64 i, .string c] 102)) := (Below.refl _ _).alloc (Nat.le_refl _) _
  have x0 := Blk.made w 102 [.int .i64 5, .int .i64 i, .string c]
  have hA := h.below hb0
  have frA := Fr.of_below (q := q) h.clean hb0
  obtain ⟨ak, ck, hkv, hkn, hrow⟩ := hA.klist
  subst hkv
  obtain ⟨g, rfl, hg, hgb, hgo, fg, c0, c1, c2, c3⟩ := hrow a ha
  have z0 := hA.keysv
  have haI : (a : Int) < m.keys.length := by omega
  clear hrow
  rw [hs] at c3
  clear hs
  have HR : Hid (∀ w', RMem o q w' b m lv (.slice (some ⟨g, 0, none⟩) m.keys.length ck) qv → w'.cell? ⟨g, a * 4 + 3, none⟩ = some (.int .i64 m.keys[a].is) ∧ ∀ j, w'.frozen? ⟨g, j, none⟩ = false) := by
    intro w' h'
    obtain ⟨ak', ck', e, -, hr'⟩ := h'.klist
    simp only [Value.slice.injEq, true_and] at e
    obtain ⟨rfl, rfl⟩ := e
    obtain ⟨g', e', -, -, -, fg', -, -, -, d3⟩ := hr' a ha
    simp only [Option.some.injEq, Addr.mk.injEq, and_true] at e'
    subst e'
    exact ⟨d3, fg'⟩
  go_enter Tryz.func85, Tryz.ntmps85
  go_wp2_with fail
  refine (kb.out _ hA).mono ?_
  rintro e w1 ⟨v, rfl, own, hb1⟩
  obtain ⟨av, cv, hv, hln, -⟩ := own_slice own
  subst hv
  have hm1 := hA.below hb1
  have fr1 := frA.below hb1
  go_wp2_with fail
  refine (kf.out _ hm1).mono ?_
  rintro e w2 ⟨rfl, rfl⟩
  clear c0 c1 c2 c3 z0 fg
  have cb := hm1.blc
  have z1 := hm1.keysv
  obtain ⟨d3, fg⟩ := HR.out _ hm1
  obtain ⟨hm3, fr3⟩ := hm1.setKey rfl (a * 4 + 3) (.int .i64 1) L hlen HC.out
  have z3 := hm3.queuev
  have hform := hm3.queue.form
  obtain ⟨aq, cq, hqv, -, -⟩ := hform
  have hqown := hm3.queue.1
  have hb3 := hm3.blk
  have f3 := hm3.frozen
  have z4 := hm1.queuev
  rw [hqv] at z3 hqown z4
  have hgb' : b ≠ g := fun e => hgb e.symm
  generalize hW3 : w2.setCell ⟨g, a * 4 + 3, none⟩ (.int .i64 1) = w3 at hqown hb3 f3 z3 hm3 fr3
  have HW3 : Hid _ := hW3
  have hsz : w3.heap.size = w2.heap.size := by rw [← hW3]; simp
  clear hW3 z3 f3
  go_wp2_with (at_builtin; refine wpList_append_lies _ rfl _ _ 74 rfl 0 3 i0 (.int .i64 0) 1 8 Tryz.underlying74 hi hz0 hz1 hz2 rfl (by omega) (.slice aq m.queue.length cq) m.queue.length (numCells m.queue) rfl ?qown ⟨w2.heap.size, 0, none⟩ 1 1 (numCells [a]) rfl rfl ?qnews ?q1 (by omega) ?q63 ?qby (Nat.zero_le _) (w2.heap.size + 1) ?qH ?_)
  case qown => simp only [HW3.out]; exact hqown.alloc _
  case qnews => simp only [HW3.out]; exact news_num _ _ hsz _ _
  case q1 => exact numCells_one _
  case q63 => unfold maxLen; omega
  case qby => omega
  case qH => simp
  intro g5 c5 w5 own5 hg5 hat5 hlt5
  simp only [HW3.out] at hg5
  subst hqv
  have hmA := hm3.alloc (.cells #[.int .i64 a] 3)
  have frB : Fr q o w o (w3.alloc (.cells #[.int .i64 a] 3)) := (fr1.trans fr3).below ((Below.refl _ _).alloc (Nat.le_refl _) _)
  have own5' : w5.ownsRow 0 3 1 (.slice (some ⟨g5, 0, none⟩) (m.queue.length + 1) c5) (m.queue ++ [a]).length (numCells (m.queue ++ [a])) := by
    rw [show numCells (m.queue ++ [a]) = numCells m.queue ++ numCells [a] by simp [numCells], List.length_append]; exact own5
  have hat5' : (Value.slice aq m.queue.length cq).ownBlock = (Value.slice (some ⟨g5, 0, none⟩) (m.queue.length + 1) c5).ownBlock ∨ (Value.slice (some ⟨g5, 0, none⟩) (m.queue.length + 1) c5).ownBlock = some (w3.alloc (.cells #[.int .i64 a] 3)).heap.size := by
    rcases hat5 with e | e
    · exact .inl e
    · right; rw [e, ← hsz]; simp [Value.ownBlock]
  obtain ⟨o6, hm6, fr6⟩ := hmA.pushQueue _ _ own5' hg5 hat5'
  have nb : some b ≠ (Value.slice aq m.queue.length cq).ownBlock := by
    intro e
    have := hm3.queue.2 _ e.symm
    rw [hm3.tag] at this
    simp at this
  have b5 : Blk w5 b _ _ := hmA.blk.keep (hg5.block b hmA.blk.lt nb)
  have z5 := b5.cell (k := 55) (u := .slice aq m.queue.length cq) rfl
  have f5 := b5.frozen
  clear z1 z4 cb d3 fg
  go_wp2
  refine bodyPost_end (v := .tuple #[]) (by simp [results, Tryz.results85, go_sem]) rfl ⟨rfl, ?_⟩
  first | exact ⟨o6, _, hm6, frB.trans fr6⟩ | exact ⟨o6, ⟨_, hm6⟩, frB.trans fr6⟩
set_option maxRecDepth 100000 in
set_option maxHeartbeats 4000000 in
/-- take of an In with no Content, of a key that collects: it waits: a slot is Idle. -/
theorem rTake_in_wait_idle (h : RMem o q w b m lv kv qv) (hwf : m.wf) (n : Nat) (i : Int) (c : ByteArray) (a : Nat) (ha : a < m.keys.length) (hs : m.keys[a].is = 0) (hc : (c.toList == []) = true) (hmax : m.queue.length ≤ 100000000000) (f : Nat) (hfr : m.first 2 = some f) :
    Calls Tryz.prog 85 #[.pointer (some ⟨b, 0, none⟩), .int .i64 n, .agg #[.int .i64 5, .int .i64 i, .string c], .int .i64 a] w fun r w' => r = .returned (.tuple #[]) ∧ ∃ o' qv', RMem o' q w' b (m.waitsAt a) lv kv qv' ∧ Fr q o w o' w' := by
  obtain ⟨i0, hi, hz0, hz1, hz2⟩ := info_parts infoInt
  have kf : Hid (∀ w', RMem o q w' b m lv kv qv → Calls Tryz.prog 70 #[.pointer (some ⟨b, 0, none⟩), .int .i64 2] w' fun r w'' => r = .returned (.int .i64 f) ∧ w'' = w') := fun w' h' => by
    have := first_slot h' 2
    rw [hfr] at this
    exact this
  have kb : Hid (∀ w', RMem o q w' b m lv kv qv → Calls Tryz.prog 69 #[.pointer (some ⟨b, 0, none⟩)] w' fun r w'' => ∃ v, r = .returned v ∧ w''.ownsRow w'.heap.size 3 1 v m.back.length (numCells m.back) ∧ Below w'.heap.size w' w'') := fun w' h' => rback_any h' hwf (by omega)
  have hfI : decide ((f : Int) < 0) = false := by simp
  have hfI2 : ¬ ((f : Int) < 0) := by omega
  clear hfr
  have hke := m.key_eq ha
  have hW : m.waitsAt a = { m with keys := m.keys.set a { m.keys[a] with is := 1 }, queue := m.queue ++ [a] } := by simp only [RM.waitsAt, hke]
  rw [hW]
  have hcells := rkeyCells_is m.keys a ha 1
  obtain ⟨L, hL⟩ : ∃ L, m.keys.set a { m.keys[a] with is := 1 } = L := ⟨_, rfl⟩
  have hlen : L.length = m.keys.length := by rw [← hL]; simp
  rw [hL] at hcells
  rw [hL]
  have HC : Hid _ := hcells
  clear hcells hL hW hke
  have hb0 : Below w.heap.size w (w.alloc (.cells #[.int .i64 5, .int .i64 i, .string c] 102)) := (Below.refl _ _).alloc (Nat.le_refl _) _
  have x0 := Blk.made w 102 [.int .i64 5, .int .i64 i, .string c]
  have hA := h.below hb0
  have frA := Fr.of_below (q := q) h.clean hb0
  obtain ⟨ak, ck, hkv, hkn, hrow⟩ := hA.klist
  subst hkv
  obtain ⟨g, rfl, hg, hgb, hgo, fg, c0, c1, c2, c3⟩ := hrow a ha
  have z0 := hA.keysv
  have haI : (a : Int) < m.keys.length := by omega
  clear hrow
  rw [hs] at c3
  clear hs
  have HR : Hid (∀ w', RMem o q w' b m lv (.slice (some ⟨g, 0, none⟩) m.keys.length ck) qv → w'.cell? ⟨g, a * 4 + 3, none⟩ = some (.int .i64 m.keys[a].is) ∧ ∀ j, w'.frozen? ⟨g, j, none⟩ = false) := by
    intro w' h'
    obtain ⟨ak', ck', e, -, hr'⟩ := h'.klist
    simp only [Value.slice.injEq, true_and] at e
    obtain ⟨rfl, rfl⟩ := e
    obtain ⟨g', e', -, -, -, fg', -, -, -, d3⟩ := hr' a ha
    simp only [Option.some.injEq, Addr.mk.injEq, and_true] at e'
    subst e'
    exact ⟨d3, fg'⟩
  go_enter Tryz.func85, Tryz.ntmps85
  go_wp2_with fail
  refine (kb.out _ hA).mono ?_
  rintro e w1 ⟨v, rfl, own, hb1⟩
  obtain ⟨av, cv, hv, hln, -⟩ := own_slice own
  subst hv
  have hm1 := hA.below hb1
  have fr1 := frA.below hb1
  go_wp2_with fail
  refine (kf.out _ hm1).mono ?_
  rintro e w2 ⟨rfl, rfl⟩
  clear c0 c1 c2 c3 z0 fg
  have cb := hm1.blc
  have z1 := hm1.keysv
  obtain ⟨d3, fg⟩ := HR.out _ hm1
  obtain ⟨hm3, fr3⟩ := hm1.setKey rfl (a * 4 + 3) (.int .i64 1) L hlen HC.out
  have z3 := hm3.queuev
  have hform := hm3.queue.form
  obtain ⟨aq, cq, hqv, -, -⟩ := hform
  have hqown := hm3.queue.1
  have hb3 := hm3.blk
  have f3 := hm3.frozen
  have z4 := hm1.queuev
  rw [hqv] at z3 hqown z4
  have hgb' : b ≠ g := fun e => hgb e.symm
  generalize hW3 : w2.setCell ⟨g, a * 4 + 3, none⟩ (.int .i64 1) = w3 at hqown hb3 f3 z3 hm3 fr3
  have HW3 : Hid _ := hW3
  have hsz : w3.heap.size = w2.heap.size := by rw [← hW3]; simp
  clear hW3 z3 f3
  go_wp2_with (at_builtin; refine wpList_append_lies _ rfl _ _ 74 rfl 0 3 i0 (.int .i64 0) 1 8 Tryz.underlying74 hi hz0 hz1 hz2 rfl (by omega) (.slice aq m.queue.length cq) m.queue.length (numCells m.queue) rfl ?qown ⟨w2.heap.size, 0, none⟩ 1 1 (numCells [a]) rfl rfl ?qnews ?q1 (by omega) ?q63 ?qby (Nat.zero_le _) (w2.heap.size + 1) ?qH ?_)
  case qown => simp only [HW3.out]; exact hqown.alloc _
  case qnews => simp only [HW3.out]; exact news_num _ _ hsz _ _
  case q1 => exact numCells_one _
  case q63 => unfold maxLen; omega
  case qby => omega
  case qH => simp
  intro g5 c5 w5 own5 hg5 hat5 hlt5
  simp only [HW3.out] at hg5
  subst hqv
  have hmA := hm3.alloc (.cells #[.int .i64 a] 3)
  have frB : Fr q o w o (w3.alloc (.cells #[.int .i64 a] 3)) := (fr1.trans fr3).below ((Below.refl _ _).alloc (Nat.le_refl _) _)
  have own5' : w5.ownsRow 0 3 1 (.slice (some ⟨g5, 0, none⟩) (m.queue.length + 1) c5) (m.queue ++ [a]).length (numCells (m.queue ++ [a])) := by
    rw [show numCells (m.queue ++ [a]) = numCells m.queue ++ numCells [a] by simp [numCells], List.length_append]; exact own5
  have hat5' : (Value.slice aq m.queue.length cq).ownBlock = (Value.slice (some ⟨g5, 0, none⟩) (m.queue.length + 1) c5).ownBlock ∨ (Value.slice (some ⟨g5, 0, none⟩) (m.queue.length + 1) c5).ownBlock = some (w3.alloc (.cells #[.int .i64 a] 3)).heap.size := by
    rcases hat5 with e | e
    · exact .inl e
    · right; rw [e, ← hsz]; simp [Value.ownBlock]
  obtain ⟨o6, hm6, fr6⟩ := hmA.pushQueue _ _ own5' hg5 hat5'
  have nb : some b ≠ (Value.slice aq m.queue.length cq).ownBlock := by
    intro e
    have := hm3.queue.2 _ e.symm
    rw [hm3.tag] at this
    simp at this
  have b5 : Blk w5 b _ _ := hmA.blk.keep (hg5.block b hmA.blk.lt nb)
  have z5 := b5.cell (k := 55) (u := .slice aq m.queue.length cq) rfl
  have f5 := b5.frozen
  clear z1 z4 cb d3 fg
  go_wp2
  refine bodyPost_end (v := .tuple #[]) (by simp [results, Tryz.results85, go_sem]) rfl ⟨rfl, ?_⟩
  first | exact ⟨o6, _, hm6, frB.trans fr6⟩ | exact ⟨o6, ⟨_, hm6⟩, frB.trans fr6⟩
end
end Go.Proofs.YtlafkpaljibonaaGreat

namespace Go.Proofs.YtlafkpaljibonaaGreat
open Go.RowKit

/-- What take makes of the document's state, plainly. -/
def RM.take (m : RM) (n : Nat) (kd i : Int) (c : ByteArray) (a : Int) : RM :=
  if kd = 1 then m.opens n i c
  else if a < 0 then m
  else if kd = 2 then (m.abortTo a.toNat 6).endKey a.toNat 5
  else if (m.key a.toNat).is ≠ 0 then m
  else if (c.toList == []) = false then cond (decide (500 < (m.key a.toNat).body.size + c.size)) ((m.addBody a.toNat c).endKey a.toNat 4) (m.addBody a.toNat c)
  else if m.first 2 = none ∧ m.set.bl ≤ (m.back.length : Int) then m.endKey a.toNat 2
  else m.waitsAt a.toNat

section
variable {o : Nat → Tag} {q : Nat} {w : World} {b : Nat} {m : RM} {lv : Nat → Value} {kv qv : Value}

/-- take, whole. -/
theorem rTake_any (h : RMem o q w b m lv kv qv) (hwf : m.wf) (hq : q ≠ 0) (n : Nat) (hn : n < 4) (kd i : Int) (c : ByteArray) (hk : kd = 1 ∨ kd = 2 ∨ kd = 5) (a : Int)
    (ha : a = -1 ∨ ∃ k, ∃ hk : k < m.keys.length, a = (k : Nat) ∧ m.keys[k].conn = n ∧ m.keys[k].body.size + c.size ≤ 1000000000)
    (hsent : (m.line n).sent.length ≤ 1000000000000) (hmk : m.keys.length ≤ 100000000000) (hmq : m.queue.length ≤ 100000000000) :
    Calls Tryz.prog 85 #[.pointer (some ⟨b, 0, none⟩), .int .i64 n, .agg #[.int .i64 kd, .int .i64 i, .string c], .int .i64 a] w fun r w' => r = .returned (.tuple #[]) ∧ ∃ o' lv' kv' qv', RMem o' q w' b (m.take n kd i c a) lv' kv' qv' ∧ Fr q o w o' w' := by
  by_cases h1 : kd = 1
  · subst h1
    refine (rTake_begin h hq n hn i c a hsent hmk).mono ?_
    rintro r w' ⟨e, o', lv', kv', hm, fr⟩
    refine ⟨e, o', lv', kv', qv, ?_, fr⟩
    simpa [RM.take] using hm
  rcases ha with rfl | ⟨k, hkl, rfl, hcn, hsz⟩
  · refine (rTake_none h n kd i c h1).mono ?_
    rintro r w' ⟨e, hm, fr⟩
    refine ⟨e, o, lv, kv, qv, ?_, fr⟩
    simpa [RM.take, h1] using hm
  have hke := m.key_eq hkl
  have hnn : ¬ ((k : Int) < 0) := by omega
  rcases hk with e1 | e2 | e5
  · exact absurd e1 h1
  · subst e2
    refine (rTake_abort h hwf n hn i c k hkl hcn hsent).mono ?_
    rintro r w' ⟨e, o', lv', hm, fr⟩
    refine ⟨e, o', lv', kv, qv, ?_, fr⟩
    simpa [RM.take, hnn] using hm
  subst e5
  by_cases hs : m.keys[k].is = 0
  case neg =>
    refine (rTake_in_skip h n i c k hkl hs).mono ?_
    rintro r w' ⟨e, hm, fr⟩
    refine ⟨e, o, lv, kv, qv, ?_, fr⟩
    simpa [RM.take, hnn, hke, hs] using hm
  cases hc : (c.toList == [])
  · refine (rTake_in_more h n hn i c k hkl hs hcn hc hsz hsent).mono ?_
    rintro r w' ⟨e, o', lv', hm, fr⟩
    refine ⟨e, o', lv', kv, qv, ?_, fr⟩
    simp only [RM.take, hnn, hke, hs, hc, Int.toNat_natCast, ne_eq, not_true_eq_false, if_false, if_true, show ¬ ((5 : Int) = 1) by omega, show ¬ ((5 : Int) = 2) by omega]
    exact hm
  · cases hf : m.first 2 with
    | none =>
      by_cases hr : m.set.bl ≤ (m.back.length : Int)
      · refine (rTake_in_over h hwf hf n hn i c k hkl hs hcn hc (by omega) hsent hr).mono ?_
        rintro r w' ⟨e, o', lv', hm, fr⟩
        refine ⟨e, o', lv', kv, qv, ?_, fr⟩
        simp only [RM.take, hnn, hke, hs, hc, hr, hf, Int.toNat_natCast, ne_eq, not_true_eq_false, if_false, if_true, show ¬ ((5 : Int) = 1) by omega, show ¬ ((5 : Int) = 2) by omega, Bool.true_eq_false, and_self]
        exact hm
      · refine (rTake_in_wait_room h hwf n i c k hkl hs hc hmq hf hr).mono ?_
        rintro r w' ⟨e, o', qv', hm, fr⟩
        refine ⟨e, o', lv, kv, qv', ?_, fr⟩
        simp only [RM.take, hnn, hke, hs, hc, hr, hf, Int.toNat_natCast, ne_eq, not_true_eq_false, if_false, show ¬ ((5 : Int) = 1) by omega, show ¬ ((5 : Int) = 2) by omega, Bool.true_eq_false, and_false]
        exact hm
    | some f =>
      refine (rTake_in_wait_idle h hwf n i c k hkl hs hc hmq f hf).mono ?_
      rintro r w' ⟨e, o', qv', hm, fr⟩
      refine ⟨e, o', lv, kv, qv', ?_, fr⟩
      simp only [RM.take, hnn, hke, hs, hc, hf, Int.toNat_natCast, ne_eq, not_true_eq_false, if_false, show ¬ ((5 : Int) = 1) by omega, show ¬ ((5 : Int) = 2) by omega, Bool.true_eq_false, reduceCtorEq, false_and]
      exact hm
end
end Go.Proofs.YtlafkpaljibonaaGreat

namespace Go.Proofs.YtlafkpaljibonaaGreat
open Go.RowKit

/-- What a step that takes one record leaves as it was, and how far it grows. -/
structure RM.Step (m m' : RM) : Prop where
  set : m'.set = m.set
  wf : m'.wf
  keys : m'.keys.length ≤ m.keys.length + 1
  keys0 : m.keys.length ≤ m'.keys.length
  queue : m'.queue.length ≤ m.queue.length + 1
  sent : ∀ n, (m'.line n).sent.length ≤ (m.line n).sent.length + 1
  come : ∀ n, (m'.line n).come = (m.line n).come
  took : ∀ n, (m'.line n).took = (m.line n).took
  op : ∀ n, (m'.line n).op = (m.line n).op

theorem RM.wf_over {m : RM} (h : m.wf) (a : Nat) (st : Int) : (m.endKey a st).wf := by
  refine ⟨?_, ?_, h.ch⟩
  · intro i hi; have := h.q i hi; simpa [RM.endKey, RM.over, RM.send] using this
  · intro j hj e; have := h.s j hj e; simpa [RM.endKey, RM.over, RM.send] using this

theorem RM.step_refl {m : RM} (hwf : m.wf) : m.Step m :=
  ⟨rfl, hwf, by omega, by omega, by omega, fun _ => by omega, fun _ => rfl, fun _ => rfl, fun _ => rfl⟩

theorem RM.step_endKey {m M : RM} (h : m.Step M) (hl : M.line = m.line) (a : Nat) (st : Int) : m.Step (M.endKey a st) where
  set := h.set
  wf := RM.wf_over h.wf a st
  keys := by have := h.keys; simpa [RM.endKey, RM.over, RM.send] using this
  keys0 := by have := h.keys0; simpa [RM.endKey, RM.over, RM.send] using this
  queue := h.queue
  sent := by
    intro n
    simp only [RM.endKey, RM.over, RM.send, upd, hl]
    split <;> simp_all
  come := by
    intro n
    simp only [RM.endKey, RM.over, RM.send, upd, hl]
    split <;> simp_all
  took := by
    intro n
    simp only [RM.endKey, RM.over, RM.send, upd, hl]
    split <;> simp_all
  op := by
    intro n
    simp only [RM.endKey, RM.over, RM.send, upd, hl]
    split <;> simp_all

theorem RM.step_pushed {m : RM} (hwf : m.wf) (n : Nat) (i : Int) : m.Step (m.pushed n i) where
  set := rfl
  wf := ⟨by intro j hj; have := hwf.q j hj; simp only [RM.pushed, List.length_append, List.length_singleton]; omega, by intro j hj e; have := hwf.s j hj e; simp only [RM.pushed, List.length_append, List.length_singleton]; omega, hwf.ch⟩
  keys := by simp [RM.pushed]
  keys0 := by simp [RM.pushed]
  queue := by simp [RM.pushed]
  sent := fun _ => Nat.le_succ _
  come := fun _ => rfl
  took := fun _ => rfl
  op := fun _ => rfl

theorem RM.step_opens {m : RM} (hwf : m.wf) (n : Nat) (i : Int) (c : ByteArray) : m.Step (m.opens n i c) := by
  unfold RM.opens
  cases (c.toList == [1])
  · exact RM.step_endKey (RM.step_pushed hwf n i) rfl _ _
  · cases decide (4 ≤ m.held n)
    · exact RM.step_pushed hwf n i
    · exact RM.step_endKey (RM.step_pushed hwf n i) rfl _ _

theorem RM.step_addBody {m : RM} (hwf : m.wf) (a : Nat) (c : ByteArray) : m.Step (m.addBody a c) where
  set := rfl
  wf := ⟨by intro j hj; have := hwf.q j hj; simpa [RM.addBody] using this, by intro j hj e; have := hwf.s j hj e; simpa [RM.addBody] using this, hwf.ch⟩
  keys := by simp [RM.addBody]
  keys0 := by simp [RM.addBody]
  queue := by simp [RM.addBody]
  sent := fun _ => Nat.le_succ _
  come := fun _ => rfl
  took := fun _ => rfl
  op := fun _ => rfl

theorem RM.step_waits {m : RM} (hwf : m.wf) (a : Nat) (ha : a < m.keys.length) : m.Step (m.waitsAt a) where
  set := rfl
  wf := by
    refine ⟨?_, ?_, hwf.ch⟩
    · intro j hj
      simp only [RM.waitsAt, List.mem_append, List.mem_singleton] at hj
      simp only [RM.waitsAt, List.length_set]
      rcases hj with hj | rfl
      · exact hwf.q j hj
      · exact ha
    · intro j hj e; have := hwf.s j hj e; simpa [RM.waitsAt] using this
  keys := by simp [RM.waitsAt]
  keys0 := by simp [RM.waitsAt]
  queue := by simp [RM.waitsAt]
  sent := fun _ => Nat.le_succ _
  come := fun _ => rfl
  took := fun _ => rfl
  op := fun _ => rfl

theorem RM.step_abort {m : RM} (hwf : m.wf) (a : Nat) : m.Step (m.abortTo a 6) := by
  obtain ⟨e1, e2, e3, e4, e5⟩ := m.abortTo_same a 6
  exact ⟨e1, RM.abortTo_wf a 6 hwf, by rw [e2]; omega, by rw [e2]; omega, by rw [e3]; omega, fun n => by rw [e4]; omega, fun n => by rw [e4], fun n => by rw [e4], fun n => by rw [e4]⟩

theorem RM.step_take {m : RM} (hwf : m.wf) (n : Nat) (kd i : Int) (c : ByteArray) (a : Int) (ha : a < 0 ∨ a.toNat < m.keys.length) : m.Step (m.take n kd i c a) := by
  unfold RM.take
  split
  · exact RM.step_opens hwf n i c
  split
  · exact RM.step_refl hwf
  rename_i hn
  have ha' : a.toNat < m.keys.length := by rcases ha with h | h <;> omega
  split
  · exact RM.step_endKey (RM.step_abort hwf _) (RM.abortTo_same m _ 6).2.2.2.1 _ _
  split
  · exact RM.step_refl hwf
  split
  · cases decide (500 < (m.key a.toNat).body.size + c.size)
    · exact RM.step_addBody hwf _ c
    · exact RM.step_endKey (RM.step_addBody hwf _ c) rfl _ _
  split
  · exact RM.step_endKey (RM.step_refl hwf) rfl _ _
  · exact RM.step_waits hwf _ ha'

end Go.Proofs.YtlafkpaljibonaaGreat

namespace Go.Proofs.YtlafkpaljibonaaGreat
open Go.RowKit

def RM.cameAt (m : RM) (k : Nat) (s : ByteArray) : RM := { m with line := upd m.line k { m.line k with come := s } }
def RM.tookAt (m : RM) (k n : Nat) : RM := { m with line := upd m.line k { m.line k with took := n } }

section
variable {o : Nat → Tag} {q : Nat} {w : World} {b : Nat} {m : RM} {lv : Nat → Value} {kv qv : Value}

theorem wcells_came (m : RM) (lv : Nat → Value) (kv qv : Value) (k : Nat) (hk : k < 4) (s : ByteArray) :
    (wcells m lv kv qv).set (8 + k * 4 + 1) (.string s) = wcells (m.cameAt k s) lv kv qv := by
  rcases k with _ | _ | _ | _ | k <;> first | rfl | omega

theorem wcells_took (m : RM) (lv : Nat → Value) (kv qv : Value) (k : Nat) (hk : k < 4) (n : Nat) :
    (wcells m lv kv qv).set (8 + k * 4 + 2) (.int .i64 n) = wcells (m.tookAt k n) lv kv qv := by
  rcases k with _ | _ | _ | _ | k <;> first | rfl | omega

theorem RMem.setCome (h : RMem o q w b m lv kv qv) (k : Nat) (hk : k < 4) (s : ByteArray) :
    RMem o q (w.setCell ⟨b, 8 + k * 4 + 1, none⟩ (.string s)) b (m.cameAt k s) lv kv qv ∧ Fr q o w o (w.setCell ⟨b, 8 + k * 4 + 1, none⟩ (.string s)) := by
  have hoth : ∀ x, x ≠ b → (w.setCell ⟨b, 8 + k * 4 + 1, none⟩ (.string s)).heap[x]? = w.heap[x]? := fun x hx => Below.heap_setCell _ _ _ x hx
  have hbk := h.blk.set (8 + k * 4 + 1) (.string s)
  rw [wcells_came m lv kv qv k hk] at hbk
  have hsent : ∀ j, j < 4 → ((m.cameAt k s).line j).sent = (m.line j).sent := by
    intro j _
    simp only [RM.cameAt, upd]
    split
    · rename_i e; rw [e]
    · rfl
  have hm1 := h.put hbk (by simp [World.setCell]) hoth hsent rfl rfl
  exact ⟨hm1, h.fr_put hm1 (by simp [World.setCell]) (by simp [World.setCell]) (by simp [World.setCell]) (by simp [World.setCell]) hoth⟩

theorem RMem.setTook (h : RMem o q w b m lv kv qv) (k : Nat) (hk : k < 4) (n : Nat) :
    RMem o q (w.setCell ⟨b, 8 + k * 4 + 2, none⟩ (.int .i64 n)) b (m.tookAt k n) lv kv qv ∧ Fr q o w o (w.setCell ⟨b, 8 + k * 4 + 2, none⟩ (.int .i64 n)) := by
  have hoth : ∀ x, x ≠ b → (w.setCell ⟨b, 8 + k * 4 + 2, none⟩ (.int .i64 n)).heap[x]? = w.heap[x]? := fun x hx => Below.heap_setCell _ _ _ x hx
  have hbk := h.blk.set (8 + k * 4 + 2) (.int .i64 n)
  rw [wcells_took m lv kv qv k hk] at hbk
  have hsent : ∀ j, j < 4 → ((m.tookAt k n).line j).sent = (m.line j).sent := by
    intro j _
    simp only [RM.tookAt, upd]
    split
    · rename_i e; rw [e]
    · rfl
  have hm1 := h.put hbk (by simp [World.setCell]) hoth hsent rfl rfl
  exact ⟨hm1, h.fr_put hm1 (by simp [World.setCell]) (by simp [World.setCell]) (by simp [World.setCell]) (by simp [World.setCell]) hoth⟩
end

/-- One record of Feed: taken, and settled. -/
def RM.one (m : RM) (k i : Nat) (r : Rec) : RM := ((m.tookAt k (i + 1)).take k r.1 r.2.1 r.2.2 (plcI (m.find k r.2.1))).settle

/-- The records of Feed from place i on; what is left, and whether the connection was closed over one of them. -/
def RM.feedL (k : Nat) : List Rec → RM → Nat → RM × Bool
  | [], m, _ => (m, false)
  | r :: l, m, i => cond (r.1 == 1 && (m.find k r.2.1).isSome) (m.close k, true) (RM.feedL k l (m.one k i r) (i + 1))

end Go.Proofs.YtlafkpaljibonaaGreat

namespace Go.Proofs.YtlafkpaljibonaaGreat
open Go.RowKit

theorem rfindFrom_some (c i : Int) : ∀ (l : List RKey) (j k : Nat), rfindFrom c i l j = some k → j ≤ k ∧ ∃ r, l[k - j]? = some r ∧ r.conn = c ∧ r.id = i ∧ r.is ≠ 3
  | [], j, k, h => by simp [rfindFrom] at h
  | r :: l, j, k, h => by
    have h' : cond (r.conn == c && r.id == i && !(r.is == 3)) (some j) (rfindFrom c i l (j + 1)) = some k := h
    cases hc : (r.conn == c && r.id == i && !(r.is == 3))
    · rw [hc] at h'
      obtain ⟨h1, r', h2, h3⟩ := rfindFrom_some c i l (j + 1) k h'
      refine ⟨by omega, r', ?_, h3⟩
      rw [show k - j = (k - (j + 1)) + 1 by omega, List.getElem?_cons_succ]
      exact h2
    · rw [hc] at h'
      simp only [cond_true, Option.some.injEq] at h'
      subst h'
      simp only [Bool.and_eq_true, beq_iff_eq, Bool.not_eq_true', beq_eq_false_iff_ne] at hc
      exact ⟨Nat.le_refl _, r, by simp, hc.1.1, hc.1.2, hc.2⟩

theorem RM.find_some {m : RM} {c i : Int} {k : Nat} (h : m.find c i = some k) : ∃ hk : k < m.keys.length, m.keys[k].conn = c ∧ m.keys[k].id = i ∧ m.keys[k].is ≠ 3 := by
  obtain ⟨-, r, h1, h2⟩ := rfindFrom_some c i m.keys 0 k h
  rw [Nat.sub_zero] at h1
  obtain ⟨hk, e⟩ := List.getElem?_eq_some_iff.1 h1
  exact ⟨hk, by rw [e]; exact h2⟩

/-- A key that has not ended holds no more than MaxBody bytes. -/
def RM.fit (m : RM) : Prop := ∀ i, (m.key i).is = 3 ∨ (m.key i).body.size ≤ 500

theorem RM.key_set (m : RM) (a i : Nat) (x : RKey) : ({ m with keys := m.keys.set a x } : RM).key i = if a = i ∧ i < m.keys.length then x else m.key i := by
  simp only [RM.key, List.getD, List.getElem?_set]
  by_cases e : a = i
  · subst e
    by_cases hl : a < m.keys.length
    · simp [hl]
    · simp [hl]
  · simp [e]

theorem RM.fit_endKey {m : RM} (a : Nat) (st : Int) (h : ∀ i, i ≠ a → (m.key i).is = 3 ∨ (m.key i).body.size ≤ 500) : (m.endKey a st).fit := by
  intro i
  have e := RM.key_set (m.send (m.key a).conn.toNat (3, (m.key a).id, strOfNums [st])) a i { (m.send (m.key a).conn.toNat (3, (m.key a).id, strOfNums [st])).key a with is := 3 }
  have e' : (m.endKey a st).key i = _ := e
  rw [e']
  split
  · exact .inl rfl
  · rename_i hn
    by_cases ea : i = a
    · right
      have hl : ¬ i < m.keys.length := fun hl => hn ⟨ea.symm, hl⟩
      have : (m.send (m.key a).conn.toNat (3, (m.key a).id, strOfNums [st])).key i = noKey := by
        show m.keys.getD i noKey = noKey
        simp [List.getD, List.getElem?_eq_none (Nat.le_of_not_lt hl)]
      rw [this]
      decide
    · exact h i ea

theorem RM.fit_pushed {m : RM} (h : m.fit) (n : Nat) (j : Int) : (m.pushed n j).fit := by
  intro i
  have e : (m.pushed n j).key i = if i < m.keys.length then m.key i else if i = m.keys.length then ⟨n, j, ⟨#[]⟩, 0⟩ else noKey := by
    simp only [RM.pushed, RM.key, List.getD, List.getElem?_append]
    by_cases h1 : i < m.keys.length
    · simp [h1]
    · by_cases h2 : i = m.keys.length
      · simp [h2]
      · have : ¬ i - m.keys.length = 0 := by omega
        simp [h1, h2, this]
  rw [e]
  split
  · exact h i
  split
  · right; exact Nat.zero_le _
  · right; decide

theorem RM.fit_opens {m : RM} (h : m.fit) (n : Nat) (i : Int) (c : ByteArray) : (m.opens n i c).fit := by
  unfold RM.opens
  cases (c.toList == [1])
  · exact RM.fit_endKey _ _ fun j _ => RM.fit_pushed h n i j
  · cases decide (4 ≤ m.held n)
    · exact RM.fit_pushed h n i
    · exact RM.fit_endKey _ _ fun j _ => RM.fit_pushed h n i j

theorem RM.fit_take {m : RM} (h : m.fit) (n : Nat) (kd i : Int) (c : ByteArray) (a : Int) : (m.take n kd i c a).fit := by
  have hadd : ∀ j, (m.addBody a.toNat c).key j = if a.toNat = j ∧ j < m.keys.length then { m.key a.toNat with body := (m.key a.toNat).body ++ c } else m.key j := fun j => RM.key_set m a.toNat j _
  unfold RM.take
  split
  · exact RM.fit_opens h n i c
  split
  · exact h
  split
  · refine RM.fit_endKey _ _ fun j _ => ?_
    have e : (m.abortTo a.toNat 6).key j = m.key j := by
      show (m.abortTo a.toNat 6).keys.getD j noKey = m.keys.getD j noKey
      rw [(RM.abortTo_same m a.toNat 6).2.1]
    rw [e]; exact h j
  split
  · exact h
  split
  · cases hd : decide (500 < (m.key a.toNat).body.size + c.size)
    · intro j
      have hd' := of_decide_eq_false hd
      simp only [cond_false]
      rw [hadd j]
      split
      · right; simp only [ByteArray.size_append]; omega
      · exact h j
    · refine RM.fit_endKey _ _ fun j hj => ?_
      rw [hadd j, if_neg (fun e => hj e.1.symm)]
      exact h j
  split
  · exact RM.fit_endKey _ _ fun j _ => h j
  · intro j
    have e : (m.waitsAt a.toNat).key j = _ := RM.key_set m a.toNat j { m.key a.toNat with is := 1 }
    rw [e]
    split
    · rcases h a.toNat with e3 | e5
      · rename_i h0 _ _ _
        simp_all
      · exact .inr e5
    · exact h j

theorem RM.startN_same : ∀ (n : Nat) (m : RM), (m.startN n).set = m.set ∧ (m.startN n).keys = m.keys ∧ (m.startN n).queue = m.queue ∧ (m.startN n).line = m.line ∧ (m.startN n).time = m.time
  | 0, _ => ⟨rfl, rfl, rfl, rfl, rfl⟩
  | n + 1, m => by
    have e : m.startN (n + 1) = cond (!m.set.dyn && decide (6 - m.cnt 0 < m.set.ch)) (m.starts.startN n) m := rfl
    rw [e]
    cases (!m.set.dyn && decide (6 - m.cnt 0 < m.set.ch))
    · exact ⟨rfl, rfl, rfl, rfl, rfl⟩
    · obtain ⟨h1, h2, h3, h4, h5⟩ := RM.startN_same n m.starts
      have hs : m.starts.set = m.set ∧ m.starts.keys = m.keys ∧ m.starts.queue = m.queue ∧ m.starts.line = m.line ∧ m.starts.time = m.time := by
        unfold RM.starts
        cases m.first 0 <;> exact ⟨rfl, rfl, rfl, rfl, rfl⟩
      exact ⟨h1.trans hs.1, h2.trans hs.2.1, h3.trans hs.2.2.1, h4.trans hs.2.2.2.1, h5.trans hs.2.2.2.2⟩

theorem RM.leaseN_same : ∀ (n : Nat) (m : RM), (m.leaseN n).set = m.set ∧ (m.leaseN n).keys.length = m.keys.length ∧ (m.leaseN n).queue = m.queue ∧ (m.leaseN n).line = m.line ∧ (m.leaseN n).time = m.time ∧ (m.fit → (m.leaseN n).fit)
  | 0, _ => ⟨rfl, rfl, rfl, rfl, rfl, id⟩
  | n + 1, m => by
    unfold RM.leaseN
    split
    · rename_i k l s hb hs
      obtain ⟨h1, h2, h3, h4, h5, h6⟩ := RM.leaseN_same n (m.leaseAt k s)
      refine ⟨h1, h2.trans (by simp [RM.leaseAt]), h3, h4, h5, fun hf => h6 ?_⟩
      intro i
      have e : (m.leaseAt k s).key i = _ := RM.key_set m k i { m.key k with is := 2 }
      rw [e]
      split
      · right
        rcases hf k with e3 | e5
        · have := (RM.back_mem m hb).2
          rw [this] at e3; cases e3
        · exact e5
      · exact hf i
    · exact ⟨rfl, rfl, rfl, rfl, rfl, id⟩

end Go.Proofs.YtlafkpaljibonaaGreat
