import Derived.Test.YtlafkpaljibonaaGreatS0
namespace Go.Proofs.YtlafkpaljibonaaGreat
open Go.RowKit

theorem slots_new (c : Cfg) (h : c.ok = true) (k : Nat) (hk : k < 6) :
    ((newPM c).slot k = newSlot 1 ∧ (startRM c).slot k = startSlot) ∨ ((newPM c).slot k = newSlot 0 ∧ (startRM c).slot k = ⟨0, 0, 0, false, 0⟩) := by
  have h0 : 0 ≤ c.ch := by have := cfg_ch1 h; omega
  rw [newPM_eq c h, startRM_eq c h]
  simp only [stRM]
  cases hd : c.dyn
  · simp only [cond_false, hk, true_and]
    by_cases e : (k : Int) < c.ch
    · left; simp only [e, if_true, show k < c.ch.toNat from by omega, and_self]
    · right; simp only [e, if_false, show ¬ k < c.ch.toNat from by omega, and_self]
  · right; simp

theorem startRM_quiet (c : Cfg) (h : c.ok = true) : (startRM c).quiet := by
  intro k hk
  rcases slots_new c h k hk with ⟨-, e⟩ | ⟨-, e⟩ <;> rw [e]
  · exact .inr rfl
  · exact .inl rfl

theorem startRM_wf (c : Cfg) (h : c.ok = true) : (startRM c).wf := by
  refine RM.wf_quiet (startRM_quiet c h) ?_ ?_
  · rw [startRM_eq c h]; intro i hi; cases hi
  · rw [startRM_eq c h]; exact cfg_fits h

theorem RM.quiet_live {M : RM} (h : M.quiet) (k : Nat) (hk : k < 6) : M.live k = false := by
  unfold RM.live
  rcases h k hk with e | e <;> rw [e] <;> rfl

theorem same_new (c : Cfg) (h : c.ok = true) : Same (newPM c) (startRM c) := by
  have hcon : (newPM c).con = fun _ => ⟨false, ⟨#[]⟩, []⟩ := by rw [newPM_eq c h]; rfl
  have hreq : (newPM c).req = [] := by rw [newPM_eq c h]; rfl
  have hline : (startRM c).line = fun _ => ⟨false, ⟨#[]⟩, 0, []⟩ := by rw [startRM_eq c h]; rfl
  have hq : (startRM c).queue = [] := by rw [startRM_eq c h]; rfl
  have hquiet := startRM_quiet c h
  refine ⟨?_, ?_, ?_, ?_, ?_, ?_, ?_⟩
  · intro n; simp only [PM.open_, RM.open_, hcon, hline]
  · intro n
    simp only [PM.sent_, RM.sent_, hcon, hline]
    cases isC n <;> rfl
  · intro n
    rcases isS_cases n with e | ⟨e, k, hk, rfl⟩
    · simp only [RM.slotV, PM.slotV, e, cond_false]
    · simp only [RM.slotV, PM.slotV, e, cond_true, Int.toNat_natCast, RM.connOf, RM.idOf, RM.quiet_live hquiet k hk, cond_false, slotVal]
      rcases slots_new c h k hk with ⟨e1, e2⟩ | ⟨e1, e2⟩ <;> rw [e1, e2] <;> rfl
  · intro n
    rcases isS_cases n with e | ⟨e, k, hk, rfl⟩
    · simp only [RM.jobV, PM.jobV, e, Bool.false_and, cond_false]
    · simp only [RM.jobV, PM.jobV, e, Bool.true_and, Int.toNat_natCast]
      rcases slots_new c h k hk with ⟨e1, e2⟩ | ⟨e1, e2⟩ <;> rw [e1, e2] <;> rfl
  · intro n
    rcases isS_cases n with e | ⟨e, k, hk, rfl⟩
    · simp only [RM.stE, PM.jobE, PM.stE, e, cond_false]
    · simp only [RM.stE, PM.jobE, PM.stE, e, cond_true, Int.toNat_natCast]
      rcases slots_new c h k hk with ⟨e1, e2⟩ | ⟨e1, e2⟩ <;> rw [e1, e2] <;> rfl
  · simp only [RM.waits, RM.back, hq, PM.waits, hreq]; rfl
  · rw [newPM_eq c h, startRM_eq c h]; rfl

set_option maxRecDepth 100000 in
set_option maxHeartbeats 1000000 in
theorem begin_no (c : Cfg) (w : World) (h : c.ok = false) :
    Calls Tryz.prog 10 #[c.val] w fun r w' => r = .returned (.tuple #[.pointer none, .bool true]) ∧ Below w.heap.size w w' := by
  have k1 : Hid (∀ w, Calls Tryz.prog 13 #[c.val] w fun r w' => r = .returned (.tuple #[.pointer none, .int .i64 1]) ∧ Below w.heap.size w w') := fun w => new_no c w h
  have k2 : Hid (∀ w, Calls Tryz.prog 14 #[c.val] w fun r w' => r = .returned (.bool false) ∧ Below w.heap.size w w') := fun w => h ▸ right_any c w
  unfold Cfg.val at *
  go_enter Tryz.func10, Tryz.ntmps10
  go_wp2_with fail
  have hk0 := Blk.made w 23 c.cells
  have hb0 : Below w.heap.size w (w.alloc (.cells #[.int .i64 c.ch, .bool c.dyn, .int .i64 c.mn, .int .i64 c.mx, .int .i64 c.mr, .int .i64 c.tmo, .int .i64 c.bl] 23)) := (Below.refl _ _).alloc (Nat.le_refl _) _
  refine (k1.out _).mono ?_
  rintro e w1 ⟨rfl, hb⟩
  have hk1 := hk0.below hb
  have d0 := hk1.cell (k := 0) (u := .int .i64 c.ch) rfl
  have d1 := hk1.cell (k := 1) (u := .bool c.dyn) rfl
  have d2 := hk1.cell (k := 2) (u := .int .i64 c.mn) rfl
  have d3 := hk1.cell (k := 3) (u := .int .i64 c.mx) rfl
  have d4 := hk1.cell (k := 4) (u := .int .i64 c.mr) rfl
  have d5 := hk1.cell (k := 5) (u := .int .i64 c.tmo) rfl
  have d6 := hk1.cell (k := 6) (u := .int .i64 c.bl) rfl
  have hb1 : Below w.heap.size w w1 := hb0.trans (hb.mono (by simp))
  clear hk0 hk1 hb0 hb k1
  go_wp2_with fail
  refine (k2.out _).mono ?_
  rintro e w2 ⟨rfl, hb2⟩
  clear d0 d1 d2 d3 d4 d5 d6
  go_wp2_with fail
  refine (num_any _ _).mono ?_
  rintro e w3 ⟨rfl, rfl⟩
  go_wp2
  go_ret2
  exact ⟨by simp, hb1.trans (hb2.mono hb1.size)⟩

def noTag : Nat → Tag := fun _ => (0, 0)

set_option maxRecDepth 100000 in
set_option maxHeartbeats 2000000 in
theorem begin_yes (p : Nat) {o : Nat → Tag} (c : Cfg) (w : World) (ho : Clean o w) (h : c.ok = true) :
    Calls Tryz.prog 10 #[c.val] w fun r w' => ∃ gb fb wb o', r = .returned (.tuple #[.pointer (some ⟨gb, 0, none⟩), .bool true]) ∧
      Trio p o' w' gb fb wb [] [] (.slice none 0 0) (.slice none 0 0) (newPM c) nilV (.slice none 0 0) (startRM c) nilV (.slice none 0 0) (.slice none 0 0) ∧ FrX p o w o' w' := by
  have k1 : Hid (∀ w, Clean o w → Calls Tryz.prog 13 #[c.val] w fun r w' => ∃ b o', r = .returned (.tuple #[.pointer (some ⟨b, 0, none⟩), .int .i64 0]) ∧ FMem o' (p + 1) w' b (newPM c) nilV (.slice none 0 0) ∧ Fr (p + 1) o w o' w') := fun w ho => new_yes (q := p + 1) c w ho h
  have k2 : Hid (∀ w, Calls Tryz.prog 14 #[c.val] w fun r w' => r = .returned (.bool true) ∧ Below w.heap.size w w') := fun w => h ▸ right_any c w
  have k3 : Hid (∀ w o, Clean o w → Calls Tryz.prog 16 #[c.val] w fun r w' => ∃ b o', r = .returned (.pointer (some ⟨b, 0, none⟩)) ∧ RMem o' (p + 2) w' b (startRM c) nilV (.slice none 0 0) (.slice none 0 0) ∧ Fr (p + 2) o w o' w') := fun w o ho => start_any (q := p + 2) c w ho h
  unfold Cfg.val at *
  go_enter Tryz.func10, Tryz.ntmps10
  go_wp2_with fail
  have hk0 := Blk.made w 23 c.cells
  have hb0 : Below w.heap.size w (w.alloc (.cells #[.int .i64 c.ch, .bool c.dyn, .int .i64 c.mn, .int .i64 c.mx, .int .i64 c.mr, .int .i64 c.tmo, .int .i64 c.bl] 23)) := (Below.refl _ _).alloc (Nat.le_refl _) _
  refine (k1.out _ (ho.le hb0.size)).mono ?_
  rintro e w1 ⟨fb, o1, rfl, hm1, fr1⟩
  have fx1 : FrX p o w o1 w1 := (FrX.of_below ho hb0).trans (fr1.toX (by omega))
  have hk1 : Blk w1 w.heap.size 23 c.cells := hk0.keep (fr1.block _ hk0.lt (by rw [ho _ (Nat.le_refl _)]; omega))
  have d0 := hk1.cell (k := 0) (u := .int .i64 c.ch) rfl
  have d1 := hk1.cell (k := 1) (u := .bool c.dyn) rfl
  have d2 := hk1.cell (k := 2) (u := .int .i64 c.mn) rfl
  have d3 := hk1.cell (k := 3) (u := .int .i64 c.mx) rfl
  have d4 := hk1.cell (k := 4) (u := .int .i64 c.mr) rfl
  have d5 := hk1.cell (k := 5) (u := .int .i64 c.tmo) rfl
  have d6 := hk1.cell (k := 6) (u := .int .i64 c.bl) rfl
  clear hk0 hb0 k1 fr1
  go_wp2_with fail
  refine (k2.out _).mono ?_
  rintro e w2 ⟨rfl, hb2⟩
  have hm2 := hm1.below hb2
  have hk2 := hk1.below hb2
  clear d0 d1 d2 d3 d4 d5 d6 hk1 hm1 k2
  have d0 := hk2.cell (k := 0) (u := .int .i64 c.ch) rfl
  have d1 := hk2.cell (k := 1) (u := .bool c.dyn) rfl
  have d2 := hk2.cell (k := 2) (u := .int .i64 c.mn) rfl
  have d3 := hk2.cell (k := 3) (u := .int .i64 c.mx) rfl
  have d4 := hk2.cell (k := 4) (u := .int .i64 c.mr) rfl
  have d5 := hk2.cell (k := 5) (u := .int .i64 c.tmo) rfl
  have d6 := hk2.cell (k := 6) (u := .int .i64 c.bl) rfl
  have fx2 := fx1.below hb2
  clear hk2 fx1 hb2
  go_wp2_with fail
  refine (num_any _ _).mono ?_
  rintro e w3 ⟨rfl, rfl⟩
  go_wp2_with fail
  refine (k3.out _ o1 hm2.clean).mono ?_
  rintro e w4 ⟨wb, o2, rfl, hr4, fr4⟩
  have hm4 := hm2.fr fr4 (by omega)
  have fx4 := fx2.trans (fr4.toX (by omega))
  clear d0 d1 d2 d3 d4 d5 d6 k3
  go_wp2
  go_ret2
  have hcl : Clean (upd o2 w4.heap.size (p + 3, 1)) (w4.alloc (.cells #[.pointer (some ⟨fb, 0, none⟩), .pointer (some ⟨wb, 0, none⟩), .slice none 0 0, .slice none 0 0] 45)) := by
    intro g hg
    have h1 : w4.heap.size + 1 ≤ g := by simpa using hg
    rw [upd_other _ _ (by omega)]
    exact hm4.clean g (by omega)
  have frg := Fr.made (q := p + 3) (o := o2) (p + 3, 1) ((Below.refl w4.heap.size w4).alloc (Nat.le_refl _) (.cells #[.pointer (some ⟨fb, 0, none⟩), .pointer (some ⟨wb, 0, none⟩), .slice none 0 0, .slice none 0 0] 45)) hcl
  refine ⟨w4.heap.size, fb, wb, upd o2 w4.heap.size (p + 3, 1), rfl, ⟨⟨Blk.made w4 _ _, upd_same _ _ _, Row.nil _ _ _ _ _, Row.nil _ _ _ _ _, rfl, fun k hk => by simp at hk, fun k hk => by simp at hk⟩, hm4.fr frg (by omega), hr4.fr frg (by omega)⟩, fx4.trans (frg.toX (by omega))⟩

theorem begin_yes0 (c : Cfg) (w : World) (h : c.ok = true) :
    Calls Tryz.prog 10 #[c.val] w fun r w' => ∃ gb fb wb o', r = .returned (.tuple #[.pointer (some ⟨gb, 0, none⟩), .bool true]) ∧
      Trio 0 o' w' gb fb wb [] [] (.slice none 0 0) (.slice none 0 0) (newPM c) nilV (.slice none 0 0) (startRM c) nilV (.slice none 0 0) (.slice none 0 0) ∧ Below w.heap.size w w' ∧ ∀ g, g < w.heap.size → o' g = (0, 0) := by
  refine (begin_yes 0 (o := noTag) c w (fun _ _ => rfl) h).mono ?_
  rintro r w' ⟨gb, fb, wb, o', h1, h2, h3⟩
  exact ⟨gb, fb, wb, o', h1, h2, ⟨h3.os, h3.tape, h3.output, h3.size, fun g hg => h3.block g hg (.inl (Nat.le_refl _))⟩, fun g hg => h3.tags g hg⟩

end Go.Proofs.YtlafkpaljibonaaGreat
