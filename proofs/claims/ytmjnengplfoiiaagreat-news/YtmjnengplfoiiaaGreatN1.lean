import Derived.Test.YtmjnengplfoiiaaGreatS0
namespace Go.Proofs.YtmjnengplfoiiaaGreat
open Go.RowKit

theorem slots_new (c : Cfg) (h : c.ok = true) (k : Nat) (hk : k < 6) :
    ((newPM c).slot k = newSlot 1 ∧ (startRM c).slot k = startSlot) ∨ ((newPM c).slot k = newSlot 0 ∧ (startRM c).slot k = ⟨0, 0, 0, false, 0⟩) := by
  have h0 : 0 ≤ c.ch := by have := cfg_ch1 h; omega
  rw [newPM_eq c h, startRM_eq c h]
  simp only [stRM]
  cases hd : c.dyn
  · simp only [cond_false, hk, true_and]
    by_cases e : (k : Int) < c.ch
    · left; simp only [e, if_true, show k < c.ch.toNat from by omega, and_self]
    · right; simp only [e, if_false, show ¬ k < c.ch.toNat from by omega, and_self]
  · right; simp

theorem startRM_quiet (c : Cfg) (h : c.ok = true) : (startRM c).quiet := by
  intro k hk
  rcases slots_new c h k hk with ⟨-, e⟩ | ⟨-, e⟩ <;> rw [e]
  · exact .inr rfl
  · exact .inl rfl

theorem startRM_wf (c : Cfg) (h : c.ok = true) : (startRM c).wf := by
  refine RM.wf_quiet (startRM_quiet c h) ?_ ?_
  · rw [startRM_eq c h]; intro i hi; cases hi
  · rw [startRM_eq c h]; exact cfg_ch h

theorem RM.quiet_live {M : RM} (h : M.quiet) (k : Nat) (hk : k < 6) : M.live k = false := by
  unfold RM.live
  rcases h k hk with e | e <;> rw [e] <;> rfl

theorem same_new (c : Cfg) (h : c.ok = true) : Same (newPM c) (startRM c) := by
  have hcon : (newPM c).con = fun _ => ⟨false, ⟨#[]⟩, []⟩ := by rw [newPM_eq c h]; rfl
  have hreq : (newPM c).req = [] := by rw [newPM_eq c h]; rfl
  have hline : (startRM c).line = fun _ => ⟨false, ⟨#[]⟩, 0, []⟩ := by rw [startRM_eq c h]; rfl
  have hq : (startRM c).queue = [] := by rw [startRM_eq c h]; rfl
  have hquiet := startRM_quiet c h
  refine ⟨?_, ?_, ?_, ?_, ?_, ?_, ?_⟩
  · intro n; simp only [PM.open_, RM.open_, hcon, hline]
  · intro n
    simp only [PM.sent_, RM.sent_, hcon, hline]
    cases isC n <;> rfl
  · intro n
    rcases isS_cases n with e | ⟨e, k, hk, rfl⟩
    · simp only [RM.slotV, PM.slotV, e, cond_false]
    · simp only [RM.slotV, PM.slotV, e, cond_true, Int.toNat_natCast, RM.connOf, RM.idOf, RM.quiet_live hquiet k hk, cond_false, slotVal]
      rcases slots_new c h k hk with ⟨e1, e2⟩ | ⟨e1, e2⟩ <;> rw [e1, e2] <;> rfl
  · intro n
    rcases isS_cases n with e | ⟨e, k, hk, rfl⟩
    · simp only [RM.jobV, PM.jobV, e, Bool.false_and, cond_false]
    · simp only [RM.jobV, PM.jobV, e, Bool.true_and, Int.toNat_natCast]
      rcases slots_new c h k hk with ⟨e1, e2⟩ | ⟨e1, e2⟩ <;> rw [e1, e2] <;> rfl
  · intro n
    rcases isS_cases n with e | ⟨e, k, hk, rfl⟩
    · simp only [RM.stE, PM.jobE, PM.stE, e, cond_false]
    · simp only [RM.stE, PM.jobE, PM.stE, e, cond_true, Int.toNat_natCast]
      rcases slots_new c h k hk with ⟨e1, e2⟩ | ⟨e1, e2⟩ <;> rw [e1, e2] <;> rfl
  · simp only [RM.waits, RM.back, hq, PM.waits, hreq]; rfl
  · rw [newPM_eq c h, startRM_eq c h]; rfl

set_option maxRecDepth 100000 in
set_option maxHeartbeats 1000000 in
theorem begin_no (c : Cfg) (w : World) (h : c.ok = false) :
    Calls Tryz.prog 8 #[c.val] w fun r w' => r = .returned (.tuple #[.pointer none, .bool true]) ∧ Below w.heap.size w w' := by
  have k1 : Hid (∀ w, Calls Tryz.prog 11 #[c.val] w fun r w' => r = .returned (.tuple #[.pointer none, .int .i64 1]) ∧ Below w.heap.size w w') := fun w => new_no c w h
  have k2 : Hid (∀ w, Calls Tryz.prog 12 #[c.val] w fun r w' => r = .returned (.bool false) ∧ Below w.heap.size w w') := fun w => h ▸ right_any c w
  unfold Cfg.val at *
  go_enter Tryz.func8, Tryz.ntmps8
  go_wp2_with fail
  have hk0 := Blk.made w 23 c.cells
  have hb0 : Below w.heap.size w (w.alloc (.cells #[.int .i64 c.ch, .bool c.dyn, .int .i64 c.mn, .int .i64 c.mx, .int .i64 c.mr, .int .i64 c.tmo, .int .i64 c.bl] 23)) := (Below.refl _ _).alloc (Nat.le_refl _) _
  refine (k1.out _).mono ?_
  rintro e w1 ⟨rfl, hb⟩
  have hk1 := hk0.below hb
  have d0 := hk1.cell (k := 0) (u := .int .i64 c.ch) rfl
  have d1 := hk1.cell (k := 1) (u := .bool c.dyn) rfl
  have d2 := hk1.cell (k := 2) (u := .int .i64 c.mn) rfl
  have d3 := hk1.cell (k := 3) (u := .int .i64 c.mx) rfl
  have d4 := hk1.cell (k := 4) (u := .int .i64 c.mr) rfl
  have d5 := hk1.cell (k := 5) (u := .int .i64 c.tmo) rfl
  have d6 := hk1.cell (k := 6) (u := .int .i64 c.bl) rfl
  have hb1 : Below w.heap.size w w1 := hb0.trans (hb.mono (by simp))
  clear hk0 hk1 hb0 hb k1
  go_wp2_with fail
  refine (k2.out _).mono ?_
  rintro e w2 ⟨rfl, hb2⟩
  clear d0 d1 d2 d3 d4 d5 d6
  go_wp2_with fail
  refine (num_any _ _).mono ?_
  rintro e w3 ⟨rfl, rfl⟩
  go_wp2
  go_ret2
  exact ⟨by simp, hb1.trans (hb2.mono hb1.size)⟩

def noTag : Nat → Tag := fun _ => (0, 0)

set_option maxRecDepth 100000 in
set_option maxHeartbeats 2000000 in
theorem begin_yes (c : Cfg) (w : World) (h : c.ok = true) :
    Calls Tryz.prog 8 #[c.val] w fun r w' => ∃ gb fb wb o', r = .returned (.tuple #[.pointer (some ⟨gb, 0, none⟩), .bool true]) ∧
      Trio o' w' gb fb wb [] [] (.slice none 0 0) (.slice none 0 0) (newPM c) nilV (.slice none 0 0) (startRM c) nilV (.slice none 0 0) (.slice none 0 0) ∧ Below w.heap.size w w' ∧ ∀ g, g < w.heap.size → o' g = (0, 0) := by
  have k1 : Hid (∀ w, Calls Tryz.prog 11 #[c.val] w fun r w' => ∃ b o', r = .returned (.tuple #[.pointer (some ⟨b, 0, none⟩), .int .i64 0]) ∧ FMem o' 1 w' b (newPM c) nilV (.slice none 0 0) ∧ Fr 1 noTag w o' w') := fun w => new_yes (q := 1) c w (o := noTag) (fun _ _ => rfl) h
  have k2 : Hid (∀ w, Calls Tryz.prog 12 #[c.val] w fun r w' => r = .returned (.bool true) ∧ Below w.heap.size w w') := fun w => h ▸ right_any c w
  have k3 : Hid (∀ w o, Clean o w → Calls Tryz.prog 14 #[c.val] w fun r w' => ∃ b o', r = .returned (.pointer (some ⟨b, 0, none⟩)) ∧ RMem o' 2 w' b (startRM c) nilV (.slice none 0 0) (.slice none 0 0) ∧ Fr 2 o w o' w') := fun w o ho => start_any (q := 2) c w ho h
  unfold Cfg.val at *
  go_enter Tryz.func8, Tryz.ntmps8
  go_wp2_with fail
  have hk0 := Blk.made w 23 c.cells
  have hb0 : Below w.heap.size w (w.alloc (.cells #[.int .i64 c.ch, .bool c.dyn, .int .i64 c.mn, .int .i64 c.mx, .int .i64 c.mr, .int .i64 c.tmo, .int .i64 c.bl] 23)) := (Below.refl _ _).alloc (Nat.le_refl _) _
  refine (k1.out _).mono ?_
  rintro e w1 ⟨fb, o1, rfl, hm1, fr1⟩
  have hb : Below (w.alloc (.cells #[.int .i64 c.ch, .bool c.dyn, .int .i64 c.mn, .int .i64 c.mx, .int .i64 c.mr, .int .i64 c.tmo, .int .i64 c.bl] 23)).heap.size (w.alloc (.cells #[.int .i64 c.ch, .bool c.dyn, .int .i64 c.mn, .int .i64 c.mx, .int .i64 c.mr, .int .i64 c.tmo, .int .i64 c.bl] 23)) w1 :=
    fr1.toBelow _ (Nat.le_refl _) (fun g _ => by simp [noTag])
  have hk1 := hk0.below hb
  have ht1 : ∀ g, g < w.heap.size + 1 → o1 g = (0, 0) := fun g hg => fr1.tags g (by simpa using hg)
  have d0 := hk1.cell (k := 0) (u := .int .i64 c.ch) rfl
  have d1 := hk1.cell (k := 1) (u := .bool c.dyn) rfl
  have d2 := hk1.cell (k := 2) (u := .int .i64 c.mn) rfl
  have d3 := hk1.cell (k := 3) (u := .int .i64 c.mx) rfl
  have d4 := hk1.cell (k := 4) (u := .int .i64 c.mr) rfl
  have d5 := hk1.cell (k := 5) (u := .int .i64 c.tmo) rfl
  have d6 := hk1.cell (k := 6) (u := .int .i64 c.bl) rfl
  have hb1 : Below w.heap.size w w1 := hb0.trans (hb.mono (by simp))
  have hlt1 : w.heap.size < w1.heap.size := hk1.lt
  clear hk0 hb0 hb k1 fr1
  go_wp2_with fail
  refine (k2.out _).mono ?_
  rintro e w2 ⟨rfl, hb2⟩
  have hm2 := hm1.below hb2
  have hk2 := hk1.below hb2
  clear d0 d1 d2 d3 d4 d5 d6 hk1 hm1 k2
  have d0 := hk2.cell (k := 0) (u := .int .i64 c.ch) rfl
  have d1 := hk2.cell (k := 1) (u := .bool c.dyn) rfl
  have d2 := hk2.cell (k := 2) (u := .int .i64 c.mn) rfl
  have d3 := hk2.cell (k := 3) (u := .int .i64 c.mx) rfl
  have d4 := hk2.cell (k := 4) (u := .int .i64 c.mr) rfl
  have d5 := hk2.cell (k := 5) (u := .int .i64 c.tmo) rfl
  have d6 := hk2.cell (k := 6) (u := .int .i64 c.bl) rfl
  have hb2' : Below w.heap.size w w2 := hb1.trans (hb2.mono hb1.size)
  have hlt2 : w.heap.size < w2.heap.size := hk2.lt
  clear hk2 hb1 hb2 hlt1
  go_wp2_with fail
  refine (num_any _ _).mono ?_
  rintro e w3 ⟨rfl, rfl⟩
  go_wp2_with fail
  refine (k3.out _ o1 hm2.clean).mono ?_
  rintro e w4 ⟨wb, o2, rfl, hr4, fr4⟩
  have hm4 := hm2.fr fr4 (by omega)
  have hb4 : Below w.heap.size w w4 := hb2'.trans (fr4.toBelow w.heap.size (Nat.le_of_lt hlt2) (fun g hg => by rw [ht1 g (by omega)]; simp))
  have ht4 : ∀ g, g < w.heap.size → o2 g = (0, 0) := fun g hg => (fr4.tags g (by omega)).trans (ht1 g (by omega))
  clear d0 d1 d2 d3 d4 d5 d6 k3
  go_wp2
  go_ret2
  have hcl : Clean (upd o2 w4.heap.size (3, 1)) (w4.alloc (.cells #[.pointer (some ⟨fb, 0, none⟩), .pointer (some ⟨wb, 0, none⟩), .slice none 0 0, .slice none 0 0] 44)) := by
    intro g hg
    have h1 : w4.heap.size + 1 ≤ g := by simpa using hg
    rw [upd_other _ _ (by omega)]
    exact hm4.clean g (by omega)
  have frg := Fr.made (q := 3) (o := o2) (3, 1) ((Below.refl w4.heap.size w4).alloc (Nat.le_refl _) (.cells #[.pointer (some ⟨fb, 0, none⟩), .pointer (some ⟨wb, 0, none⟩), .slice none 0 0, .slice none 0 0] 44)) hcl
  refine ⟨w4.heap.size, fb, wb, upd o2 w4.heap.size (3, 1), rfl, ⟨⟨Blk.made w4 _ _, upd_same _ _ _, Row.nil _ _ _ _ _, Row.nil _ _ _ _ _, rfl, fun k hk => by simp at hk, fun k hk => by simp at hk⟩, hm4.fr frg (by omega), hr4.fr frg (by omega)⟩, hb4.alloc hb4.size _, fun g hg => ?_⟩
  rw [upd_other _ _ (by have := hb4.size; omega)]
  exact ht4 g hg
end Go.Proofs.YtmjnengplfoiiaaGreat
