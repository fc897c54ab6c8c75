import Derived.Test.YtlafkpaljibonaaGreatJ17
import Derived.Test.YtlafkpaljibonaaGreatJ20
import Derived.ProofKit
import Derived.OpenShut
import Derived.JoinedCond
import Derived.ShutString
import Derived.ChangeOld
import Derived.Lib.SmallJoins
import Derived.Deep.Slices
import Derived.Deep.Strs
namespace Go.Proofs.YtlafkpaljibonaaGreat
open Go.RowKit

theorem cfg_ch1 {c : Cfg} (h : c.ok = true) : 1 ≤ c.ch := by
  simp only [Cfg.ok, Bool.and_eq_true, decide_eq_true_eq] at h
  exact h.1.1.1.1

theorem leaseTo_none (m : PM) (h : m.fw = none) (k : Nat) : m.leaseTo k = m := by
  induction k with
  | zero => rfl
  | succ k ih => simp only [PM.leaseTo, ih, PM.leaseAt, h]

theorem raw_used (c : Cfg) : (rawPM c).usedTo 6 = 0 := by simp [PM.usedTo, rawPM, newSlot]

theorem startTo_raw (c : Cfg) (h0 : 0 ≤ c.ch) (k : Nat) : startTo (rawPM c) 0 k = ({ rawPM c with slot := fun i => if i < k ∧ (i : Int) < c.ch then newSlot 1 else newSlot 0 }, if (k : Int) < c.ch then (k : Int) else c.ch) := by
  induction k with
  | zero =>
    simp only [startTo]
    congr 1
    simp; omega
  | succ k ih =>
    simp only [startTo, ih]
    have hset : (rawPM c).set = c := rfl
    rw [hset]
    have hs : ((if k < k ∧ (k : Int) < c.ch then newSlot 1 else newSlot 0).st == 0) = true := by simp [newSlot]
    rw [hs, Bool.and_true]
    by_cases hk : (k : Int) < c.ch
    · simp only [hk, if_true, decide_true, cond_true]
      refine Prod.ext ?_ ?_
      · simp only
        congr 1
        funext i
        simp only [upd]
        by_cases e : i = k
        · subst e; simp [hk]
        · simp only [e, if_false]
          by_cases e2 : i < k
          · simp [e2, show i < k + 1 from by omega]
          · simp [e2, show ¬ i < k + 1 from by omega]
      · simp only; split <;> omega
    · simp only [hk, if_false, Int.lt_irrefl, decide_false, cond_false]
      refine Prod.ext ?_ ?_
      · simp only
        congr 1
        funext i
        by_cases e : i = k
        · subst e; simp [hk]
        · by_cases e2 : i < k
          · simp [e2, show i < k + 1 from by omega]
          · simp [e2, show ¬ i < k + 1 from by omega]
      · simp only; split <;> omega

theorem newPM_eq (c : Cfg) (h : c.ok = true) : newPM c = { rawPM c with slot := fun i => if c.dyn = false ∧ i < 6 ∧ (i : Int) < c.ch then newSlot 1 else newSlot 0 } := by
  have h0 : 0 ≤ c.ch := by have := cfg_ch1 h; omega
  unfold newPM PM.settle PM.leaseWaiting
  rw [leaseTo_none]
  · cases hd : (rawPM c).set.dyn
    · have hd2 : c.dyn = false := hd
      simp only [cond_false, PM.startMissing, raw_used, startTo_raw c h0, hd2, true_and]
    · have hd2 : c.dyn = true := hd
      simp only [cond_true, hd2]
      simp [rawPM]
  · cases hd : (rawPM c).set.dyn
    · simp only [cond_false, PM.startMissing, raw_used, startTo_raw c h0]; rfl
    · rfl

/-- The document's foreman with j slots started. -/
def stRM (c : Cfg) (j : Nat) : RM := { rawRM c with slot := fun i => if i < j then startSlot else ⟨0, 0, 0, false, 0⟩ }

theorem stRM_first (c : Cfg) (j : Nat) (hj : j < 6) : (stRM c j).first 0 = some j := by
  rcases j with _ | _ | _ | _ | _ | _ | j <;> first | omega | simp [RM.first, RM.fst, stRM, startSlot]

theorem stRM_cnt (c : Cfg) (j : Nat) (hj : j ≤ 6) : (stRM c j).cnt 0 = 6 - j := by
  rcases j with _ | _ | _ | _ | _ | _ | _ | j <;> first | omega | simp [RM.cnt, RM.cntTo, stRM, startSlot]

theorem stRM_starts (c : Cfg) (j : Nat) (hj : j < 6) : (stRM c j).starts = stRM c (j + 1) := by
  unfold RM.starts
  rw [stRM_first c j hj]
  simp only [stRM, RM.mk.injEq, true_and, and_true]
  funext i
  simp only [upd]
  by_cases e : i = j
  · subst e; simp
  · by_cases e2 : i < j
    · simp [e, e2, show i < j + 1 from by omega]
    · simp [e, e2, show ¬ i < j + 1 from by omega]

theorem stRM_go (c : Cfg) (hd : c.dyn = false) (hc : c.ch ≤ 6) (n j : Nat) (hj : (j : Int) ≤ c.ch) (hn : c.ch ≤ (j : Int) + n) : (stRM c j).startN n = stRM c c.ch.toNat := by
  induction n generalizing j with
  | zero =>
    have : c.ch.toNat = j := by omega
    rw [this]; rfl
  | succ n ih =>
    rw [show (stRM c j).startN (n + 1) = cond (!(stRM c j).set.dyn && decide (6 - (stRM c j).cnt 0 < (stRM c j).set.ch)) ((stRM c j).starts.startN n) (stRM c j) from rfl]
    rw [show (stRM c j).set = c from rfl, hd, stRM_cnt c j (by omega)]
    by_cases e : (j : Int) < c.ch
    · rw [decide_eq_true (by omega)]
      simp only [Bool.not_false, Bool.and_self, cond_true]
      rw [stRM_starts c j (by omega)]
      exact ih (j + 1) (by omega) (by omega)
    · rw [decide_eq_false (by omega)]
      simp only [Bool.and_false, cond_false]
      rw [show c.ch.toNat = j from by omega]

theorem startRM_eq (c : Cfg) (h : c.ok = true) : startRM c = stRM c (cond c.dyn 0 c.ch.toNat) := by
  have h0 : 0 ≤ c.ch := by have := cfg_ch1 h; omega
  have hc := cfg_ch h
  have e0 : rawRM c = stRM c 0 := by simp [stRM, rawRM]
  unfold startRM RM.startAll
  rw [e0]
  cases hd : c.dyn
  · rw [cond_false]; exact stRM_go c hd hc 6 0 (by omega) (by omega)
  · rw [cond_true, show (stRM c 0).startN 6 = cond (!(stRM c 0).set.dyn && decide (6 - (stRM c 0).cnt 0 < (stRM c 0).set.ch)) ((stRM c 0).starts.startN 5) (stRM c 0) from rfl]
    rw [show (stRM c 0).set.dyn = c.dyn from rfl, hd]
    rfl
end Go.Proofs.YtlafkpaljibonaaGreat

namespace Go.Proofs.YtlafkpaljibonaaGreat
open Go.RowKit

theorem slots_new (c : Cfg) (h : c.ok = true) (k : Nat) (hk : k < 6) :
    ((newPM c).slot k = newSlot 1 ∧ (startRM c).slot k = startSlot) ∨ ((newPM c).slot k = newSlot 0 ∧ (startRM c).slot k = ⟨0, 0, 0, false, 0⟩) := by
  have h0 : 0 ≤ c.ch := by have := cfg_ch1 h; omega
  rw [newPM_eq c h, startRM_eq c h]
  simp only [stRM]
  cases hd : c.dyn
  · simp only [cond_false, hk, true_and]
    by_cases e : (k : Int) < c.ch
    · left; simp only [e, if_true, show k < c.ch.toNat from by omega, and_self]
    · right; simp only [e, if_false, show ¬ k < c.ch.toNat from by omega, and_self]
  · right; simp

theorem startRM_quiet (c : Cfg) (h : c.ok = true) : (startRM c).quiet := by
  intro k hk
  rcases slots_new c h k hk with ⟨-, e⟩ | ⟨-, e⟩ <;> rw [e]
  · exact .inr rfl
  · exact .inl rfl

theorem startRM_wf (c : Cfg) (h : c.ok = true) : (startRM c).wf := by
  refine RM.wf_quiet (startRM_quiet c h) ?_ ?_
  · rw [startRM_eq c h]; intro i hi; cases hi
  · rw [startRM_eq c h]; exact cfg_fits h

theorem RM.quiet_live {M : RM} (h : M.quiet) (k : Nat) (hk : k < 6) : M.live k = false := by
  unfold RM.live
  rcases h k hk with e | e <;> rw [e] <;> rfl

theorem same_new (c : Cfg) (h : c.ok = true) : Same (newPM c) (startRM c) := by
  have hcon : (newPM c).con = fun _ => ⟨false, ⟨#[]⟩, []⟩ := by rw [newPM_eq c h]; rfl
  have hreq : (newPM c).req = [] := by rw [newPM_eq c h]; rfl
  have hline : (startRM c).line = fun _ => ⟨false, ⟨#[]⟩, 0, []⟩ := by rw [startRM_eq c h]; rfl
  have hq : (startRM c).queue = [] := by rw [startRM_eq c h]; rfl
  have hquiet := startRM_quiet c h
  refine ⟨?_, ?_, ?_, ?_, ?_, ?_, ?_⟩
  · intro n; simp only [PM.open_, RM.open_, hcon, hline]
  · intro n
    simp only [PM.sent_, RM.sent_, hcon, hline]
    cases isC n <;> rfl
  · intro n
    rcases isS_cases n with e | ⟨e, k, hk, rfl⟩
    · simp only [RM.slotV, PM.slotV, e, cond_false]
    · simp only [RM.slotV, PM.slotV, e, cond_true, Int.toNat_natCast, RM.connOf, RM.idOf, RM.quiet_live hquiet k hk, cond_false, slotVal]
      rcases slots_new c h k hk with ⟨e1, e2⟩ | ⟨e1, e2⟩ <;> rw [e1, e2] <;> rfl
  · intro n
    rcases isS_cases n with e | ⟨e, k, hk, rfl⟩
    · simp only [RM.jobV, PM.jobV, e, Bool.false_and, cond_false]
    · simp only [RM.jobV, PM.jobV, e, Bool.true_and, Int.toNat_natCast]
      rcases slots_new c h k hk with ⟨e1, e2⟩ | ⟨e1, e2⟩ <;> rw [e1, e2] <;> rfl
  · intro n
    rcases isS_cases n with e | ⟨e, k, hk, rfl⟩
    · simp only [RM.stE, PM.jobE, PM.stE, e, cond_false]
    · simp only [RM.stE, PM.jobE, PM.stE, e, cond_true, Int.toNat_natCast]
      rcases slots_new c h k hk with ⟨e1, e2⟩ | ⟨e1, e2⟩ <;> rw [e1, e2] <;> rfl
  · simp only [RM.waits, RM.back, hq, PM.waits, hreq]; rfl
  · rw [newPM_eq c h, startRM_eq c h]; rfl

set_option maxRecDepth 100000 in
set_option maxHeartbeats 1000000 in
theorem begin_no (c : Cfg) (w : World) (h : c.ok = false) :
    Calls Tryz.prog 10 #[c.val] w fun r w' => r = .returned (.tuple #[.pointer none, .bool true]) ∧ Below w.heap.size w w' := by
  have k1 : Hid (∀ w, Calls Tryz.prog 13 #[c.val] w fun r w' => r = .returned (.tuple #[.pointer none, .int .i64 1]) ∧ Below w.heap.size w w') := fun w => new_no c w h
  have k2 : Hid (∀ w, Calls Tryz.prog 14 #[c.val] w fun r w' => r = .returned (.bool false) ∧ Below w.heap.size w w') := fun w => h ▸ right_any c w
  unfold Cfg.val at *
  go_enter Tryz.func10, Tryz.ntmps10
  go_wp2_with fail
  have hk0 := Blk.made w 23 c.cells
  have hb0 : Below w.heap.size w (w.alloc (.cells #[.int .i64 c.ch, .bool c.dyn, .int .i64 c.mn, .int .i64 c.mx, .int .i64 c.mr, .int .i64 c.tmo, .int .i64 c.bl] 23)) := (Below.refl _ _).alloc (Nat.le_refl _) _
  refine (k1.out _).mono ?_
  rintro e w1 ⟨rfl, hb⟩
  have hk1 := hk0.below hb
  have d0 := hk1.cell (k := 0) (u := .int .i64 c.ch) rfl
  have d1 := hk1.cell (k := 1) (u := .bool c.dyn) rfl
  have d2 := hk1.cell (k := 2) (u := .int .i64 c.mn) rfl
  have d3 := hk1.cell (k := 3) (u := .int .i64 c.mx) rfl
  have d4 := hk1.cell (k := 4) (u := .int .i64 c.mr) rfl
  have d5 := hk1.cell (k := 5) (u := .int .i64 c.tmo) rfl
  have d6 := hk1.cell (k := 6) (u := .int .i64 c.bl) rfl
  have hb1 : Below w.heap.size w w1 := hb0.trans (hb.mono (by simp))
  clear hk0 hk1 hb0 hb k1
  go_wp2_with fail
  refine (k2.out _).mono ?_
  rintro e w2 ⟨rfl, hb2⟩
  clear d0 d1 d2 d3 d4 d5 d6
  go_wp2_with fail
  refine (num_any _ _).mono ?_
  rintro e w3 ⟨rfl, rfl⟩
  go_wp2
  go_ret2
  exact ⟨by simp, hb1.trans (hb2.mono hb1.size)⟩

def noTag : Nat → Tag := fun _ => (0, 0)

set_option maxRecDepth 100000 in
set_option maxHeartbeats 2000000 in
theorem begin_yes (p : Nat) {o : Nat → Tag} (c : Cfg) (w : World) (ho : Clean o w) (h : c.ok = true) :
    Calls Tryz.prog 10 #[c.val] w fun r w' => ∃ gb fb wb o', r = .returned (.tuple #[.pointer (some ⟨gb, 0, none⟩), .bool true]) ∧
      Trio p o' w' gb fb wb [] [] (.slice none 0 0) (.slice none 0 0) (newPM c) nilV (.slice none 0 0) (startRM c) nilV (.slice none 0 0) (.slice none 0 0) ∧ FrX p o w o' w' := by
  have k1 : Hid (∀ w, Clean o w → Calls Tryz.prog 13 #[c.val] w fun r w' => ∃ b o', r = .returned (.tuple #[.pointer (some ⟨b, 0, none⟩), .int .i64 0]) ∧ FMem o' (p + 1) w' b (newPM c) nilV (.slice none 0 0) ∧ Fr (p + 1) o w o' w') := fun w ho => new_yes (q := p + 1) c w ho h
  have k2 : Hid (∀ w, Calls Tryz.prog 14 #[c.val] w fun r w' => r = .returned (.bool true) ∧ Below w.heap.size w w') := fun w => h ▸ right_any c w
  have k3 : Hid (∀ w o, Clean o w → Calls Tryz.prog 16 #[c.val] w fun r w' => ∃ b o', r = .returned (.pointer (some ⟨b, 0, none⟩)) ∧ RMem o' (p + 2) w' b (startRM c) nilV (.slice none 0 0) (.slice none 0 0) ∧ Fr (p + 2) o w o' w') := fun w o ho => start_any (q := p + 2) c w ho h
  unfold Cfg.val at *
  go_enter Tryz.func10, Tryz.ntmps10
  go_wp2_with fail
  have hk0 := Blk.made w 23 c.cells
  have hb0 : Below w.heap.size w (w.alloc (.cells #[.int .i64 c.ch, .bool c.dyn, .int .i64 c.mn, .int .i64 c.mx, .int .i64 c.mr, .int .i64 c.tmo, .int .i64 c.bl] 23)) := (Below.refl _ _).alloc (Nat.le_refl _) _
  refine (k1.out _ (ho.le hb0.size)).mono ?_
  rintro e w1 ⟨fb, o1, rfl, hm1, fr1⟩
  have fx1 : FrX p o w o1 w1 := (FrX.of_below ho hb0).trans (fr1.toX (by omega))
  have hk1 : Blk w1 w.heap.size 23 c.cells := hk0.keep (fr1.block _ hk0.lt (by rw [ho _ (Nat.le_refl _)]; omega))
  have d0 := hk1.cell (k := 0) (u := .int .i64 c.ch) rfl
  have d1 := hk1.cell (k := 1) (u := .bool c.dyn) rfl
  have d2 := hk1.cell (k := 2) (u := .int .i64 c.mn) rfl
  have d3 := hk1.cell (k := 3) (u := .int .i64 c.mx) rfl
  have d4 := hk1.cell (k := 4) (u := .int .i64 c.mr) rfl
  have d5 := hk1.cell (k := 5) (u := .int .i64 c.tmo) rfl
  have d6 := hk1.cell (k := 6) (u := .int .i64 c.bl) rfl
  clear hk0 hb0 k1 fr1
  go_wp2_with fail
  refine (k2.out _).mono ?_
  rintro e w2 ⟨rfl, hb2⟩
  have hm2 := hm1.below hb2
  have hk2 := hk1.below hb2
  clear d0 d1 d2 d3 d4 d5 d6 hk1 hm1 k2
  have d0 := hk2.cell (k := 0) (u := .int .i64 c.ch) rfl
  have d1 := hk2.cell (k := 1) (u := .bool c.dyn) rfl
  have d2 := hk2.cell (k := 2) (u := .int .i64 c.mn) rfl
  have d3 := hk2.cell (k := 3) (u := .int .i64 c.mx) rfl
  have d4 := hk2.cell (k := 4) (u := .int .i64 c.mr) rfl
  have d5 := hk2.cell (k := 5) (u := .int .i64 c.tmo) rfl
  have d6 := hk2.cell (k := 6) (u := .int .i64 c.bl) rfl
  have fx2 := fx1.below hb2
  clear hk2 fx1 hb2
  go_wp2_with fail
  refine (num_any _ _).mono ?_
  rintro e w3 ⟨rfl, rfl⟩
  go_wp2_with fail
  refine (k3.out _ o1 hm2.clean).mono ?_
  rintro e w4 ⟨wb, o2, rfl, hr4, fr4⟩
  have hm4 := hm2.fr fr4 (by omega)
  have fx4 := fx2.trans (fr4.toX (by omega))
  clear d0 d1 d2 d3 d4 d5 d6 k3
  go_wp2
  go_ret2
  have hcl : Clean (upd o2 w4.heap.size (p + 3, 1)) (w4.alloc (.cells #[.pointer (some ⟨fb, 0, none⟩), .pointer (some ⟨wb, 0, none⟩), .slice none 0 0, .slice none 0 0] 45)) := by
    intro g hg
    have h1 : w4.heap.size + 1 ≤ g := by simpa using hg
    rw [upd_other _ _ (by omega)]
    exact hm4.clean g (by omega)
  have frg := Fr.made (q := p + 3) (o := o2) (p + 3, 1) ((Below.refl w4.heap.size w4).alloc (Nat.le_refl _) (.cells #[.pointer (some ⟨fb, 0, none⟩), .pointer (some ⟨wb, 0, none⟩), .slice none 0 0, .slice none 0 0] 45)) hcl
  refine ⟨w4.heap.size, fb, wb, upd o2 w4.heap.size (p + 3, 1), rfl, ⟨⟨Blk.made w4 _ _, upd_same _ _ _, Row.nil _ _ _ _ _, Row.nil _ _ _ _ _, rfl, fun k hk => by simp at hk, fun k hk => by simp at hk⟩, hm4.fr frg (by omega), hr4.fr frg (by omega)⟩, fx4.trans (frg.toX (by omega))⟩

theorem begin_yes0 (c : Cfg) (w : World) (h : c.ok = true) :
    Calls Tryz.prog 10 #[c.val] w fun r w' => ∃ gb fb wb o', r = .returned (.tuple #[.pointer (some ⟨gb, 0, none⟩), .bool true]) ∧
      Trio 0 o' w' gb fb wb [] [] (.slice none 0 0) (.slice none 0 0) (newPM c) nilV (.slice none 0 0) (startRM c) nilV (.slice none 0 0) (.slice none 0 0) ∧ Below w.heap.size w w' ∧ ∀ g, g < w.heap.size → o' g = (0, 0) := by
  refine (begin_yes 0 (o := noTag) c w (fun _ _ => rfl) h).mono ?_
  rintro r w' ⟨gb, fb, wb, o', h1, h2, h3⟩
  exact ⟨gb, fb, wb, o', h1, h2, ⟨h3.os, h3.tape, h3.output, h3.size, fun g hg => h3.block g hg (.inl (Nat.le_refl _))⟩, fun g hg => h3.tags g hg⟩

end Go.Proofs.YtlafkpaljibonaaGreat

namespace Go.Proofs.YtlafkpaljibonaaGreat
open Go.RowKit

theorem sim_raw (c : Cfg) (h : c.ok = true) : Sim (rawPM c) (rawRM c) := by
  have hl : ∀ k, (rawRM c).live k = false := fun k => rfl
  refine ⟨rfl, rfl, fun _ _ => rfl, fun _ _ => rfl, fun _ _ => rfl, fun _ _ => rfl, fun _ _ => rfl, fun _ _ => rfl, fun _ _ => rfl, fun _ _ => rfl, ?_, List.Perm.refl _, List.nodup_nil, rfl, ?_, List.nodup_nil, ?_, ?_, ⟨?_, ?_, cfg_fits h⟩, ?_, fun _ _ _ => rfl⟩
  · intro k _ e; cases e
  · intro j k _ _ e; rw [hl] at e; cases e
  · intro i hi; cases hi
  · intro i hi; simp [rawRM] at hi
  · intro i hi; cases hi
  · intro k _ e; cases e
  · intro k _ e; cases e

theorem startRM_settle (c : Cfg) : startRM c = (rawRM c).settle := by
  unfold startRM RM.settle
  have hb : (rawRM c).startAll.back = [] := by
    unfold RM.back
    rw [show (rawRM c).startAll.queue = (rawRM c).queue from (RM.startN_same 6 (rawRM c)).2.2.1]
    rfl
  show _ = RM.leaseN _ 6
  simp only [RM.leaseN, hb]

theorem ok_new (c : Cfg) (h : c.ok = true) : Ok (newPM c) (startRM c) 0 := by
  have hs := sim_raw c h
  have h0 : Ok (rawPM c) (rawRM c) 0 := by
    refine ⟨hs, (fun k _ e => by cases e), ⟨hs.wf, fun i => .inl ?_, Nat.le_refl _, Nat.le_refl _, fun _ => Nat.le_refl _⟩, fun _ => Nat.le_refl _, fun _ _ => Nat.le_refl _⟩
    simp [rawRM, RM.key, noKey]
  rw [startRM_settle]
  exact h0.of (Nat.le_refl _) hs.settle (ConSame.settle _) (LineSame.settle _) h0.good.settle

/-- The steps of a script, where they lie. -/
def IsSteps (w : World) (a : Option Addr) (len : Nat) (X : Nat → St) : Prop :=
  len = 0 ∨ ∃ b off, a = some ⟨b, off, none⟩ ∧ b < w.heap.size ∧ ∀ k, k < len → ∀ j u, ((X k).cells)[j]? = some u → w.cell? ⟨b, off + k * 11 + j, none⟩ = some u

def tot (X : Nat → St) : Nat → Nat
  | 0 => 0
  | k + 1 => tot X k + (X k).s.size + 6

theorem tot_mono (X : Nat → St) {j k : Nat} (h : j ≤ k) : tot X j ≤ tot X k := by
  induction k with
  | zero => have : j = 0 := by omega
            subst this; exact Nat.le_refl _
  | succ k ih =>
    by_cases e : j = k + 1
    · subst e; exact Nat.le_refl _
    · have := ih (by omega)
      simp only [tot]; omega

theorem tot_ge (X : Nat → St) : ∀ k, k ≤ tot X k
  | 0 => Nat.le_refl _
  | k + 1 => by have := tot_ge X k; simp only [tot]; omega

set_option maxRecDepth 100000 in
set_option maxHeartbeats 8000000 in
theorem plays_yes (c : Cfg) (hc : c.ok = true) (sp : Option Addr) (n cap : Nat) (X : Nat → St) (last : Int) (w : World) (hX : IsSteps w sp n X) (hsum : tot X n ≤ 8000000) :
    Calls Tryz.prog 8 #[c.val, .slice sp n cap, .int .i64 last] w fun r w' => r = .returned (.bool true) ∧ Below w.heap.size w w' := by
  have k1 : Hid (∀ w, Calls Tryz.prog 10 #[c.val] w fun r w' => ∃ gb fb wb o', r = .returned (.tuple #[.pointer (some ⟨gb, 0, none⟩), .bool true]) ∧
      Trio 0 o' w' gb fb wb [] [] (.slice none 0 0) (.slice none 0 0) (newPM c) nilV (.slice none 0 0) (startRM c) nilV (.slice none 0 0) (.slice none 0 0) ∧ Below w.heap.size w w' ∧ ∀ g, g < w.heap.size → o' g = (0, 0)) := fun w => begin_yes0 c w hc
  have hok0 := ok_new c hc
  have hnT := tot_ge X n
  unfold Cfg.val at *
  generalize newPM c = m0 at *
  generalize startRM c = M0 at *
  have hb0 : Below w.heap.size w (w.alloc (.cells #[.int .i64 c.ch, .bool c.dyn, .int .i64 c.mn, .int .i64 c.mx, .int .i64 c.mr, .int .i64 c.tmo, .int .i64 c.bl] 23)) := (Below.refl _ _).alloc (Nat.le_refl _) _
  go_enter Tryz.func8, Tryz.ntmps8
  go_wp2_with fail
  refine (k1.out _).mono ?_
  rintro e w1 ⟨gb, fb, wb, o1, rfl, tr, hb, ho⟩
  have hb1 : Below w.heap.size w w1 := hb0.trans (hb.mono (by simp))
  have ho1 : ∀ g, g < w.heap.size → o1 g = (0, 0) := fun g hg => ho g (by simp; omega)
  clear hb ho hb0 k1
  have hX1 : IsSteps w1 sp n X := by
    rcases hX with e | ⟨b, off, e, hbl, hcell⟩
    · exact .inl e
    · exact .inr ⟨b, off, e, Nat.lt_of_lt_of_le hbl hb1.size, fun k hk j u hu => by rw [hb1.cell (by exact hbl)]; exact hcell k hk j u hu⟩
  have hbX : ∀ b off, sp = some ⟨b, off, none⟩ → 0 < n → o1 b = (0, 0) ∧ b < w1.heap.size := by
    intro b off e hn
    rcases hX with e0 | ⟨b', off', e', hbl, -⟩
    · omega
    · rw [e] at e'
      simp only [Option.some.injEq, Addr.mk.injEq, and_true] at e'
      rw [e'.1]
      exact ⟨ho1 b' hbl, Nat.lt_of_lt_of_le hbl hb1.size⟩
  have fx0 : FrX 0 o1 w1 o1 w1 := FrX.of_below tr.f.clean (Below.refl _ _)
  go_wp2
  go_loopw [8, 9] (fun okv i w' => ∃ k : Nat, k ≤ n ∧ okv = .bool true ∧ i = .int .i64 k ∧ ∃ o' ls' ts' lv' tv' sv' rv' nv' kv' qv' m' M', Trio 0 o' w' gb fb wb ls' ts' lv' tv' m' sv' rv' M' nv' kv' qv' ∧ Ok m' M' (tot X k) ∧ FrX 0 o1 w1 o' w' ∧ ls'.length ≤ k) (fun _ i _ => n - (intOf i).toNat)
  case atStart => exact ⟨0, by omega, rfl, rfl, o1, [], [], _, _, _, _, _, _, _, m0, M0, tr, hok0, fx0, by simp⟩
  case round =>
    obtain ⟨k, hk, rfl, rfl, o2, ls2, ts2, lv2, tv2, sv2, rv2, nv2, kv2, qv2, m2, M2, t2, hok, hfx, hls⟩ := hrel
    clear tr hok0 fx0
    have htk := tot_mono X hk
    have hsmall := hok.small
    have HL : Hid (∀ (o' : Nat → Tag) (w' : World) (m' : PM) (M' : RM) sv' rv' nv' kv' qv' (B : Nat), Trio 0 o' w' gb fb wb ls2 ts2 lv2 tv2 m' sv' rv' M' nv' kv' qv' → Ok m' M' B → B ≤ 8000000 → Calls Tryz.prog 11 #[.pointer (some ⟨gb, 0, none⟩)] w' fun r w'' => r = .returned (.bool true) ∧ ∃ o'' ls' ts' lv' tv', Trio 0 o'' w'' gb fb wb ls' ts' lv' tv' m' sv' rv' M' nv' kv' qv' ∧ Fr 3 o' w' o'' w'' ∧ ls'.length = ls2.length + 1) := fun o' w' m' M' sv' rv' nv' kv' qv' B h1 h2 h3 =>
      looks_all h1 h2.good.wf h2.same (fun c _ => by have := h2.good.sent c; omega) (by have := h2.small.req; omega) (by have := h2.good.queue; omega) (by omega)
    by_cases hlt : k < n
    · obtain ⟨b, off, rfl, hcell⟩ : ∃ b off, sp = some ⟨b, off, none⟩ ∧ ∀ j u, ((X k).cells)[j]? = some u → wr.cell? ⟨b, off + k * 11 + j, none⟩ = some u := by
        rcases hX1 with e | ⟨b, off, e, hbl, hcell⟩
        · omega
        · obtain ⟨q1, q2⟩ := hbX b off e (by omega)
          exact ⟨b, off, e, fun j u hu => by rw [World.cell?_of_block (hfx.block b q2 (by rw [q1]; exact .inl (Nat.le_refl _)))]; exact hcell k hlt j u hu⟩
      have HT : Hid (tot X (k + 1) = tot X k + (X k).s.size + 6) := rfl
      have htk1 := tot_mono X (show k + 1 ≤ n from hlt)
      have hsz : (X k).s.size ≤ 8000000 := by have := HT.out; omega
      clear hX hX1 hbX
      generalize X k = x at *
      have hkI : (k : Int) < n := by omega
      have g0 := hcell 0 (.int .i64 x.kind) rfl
      have g1 := hcell 1 (.int .i64 x.a) rfl
      have g2 := hcell 2 (.string x.s) rfl
      have g3 := hcell 3 (.int .i64 x.c.ch) rfl
      have g4 := hcell 4 (.bool x.c.dyn) rfl
      have g5 := hcell 5 (.int .i64 x.c.mn) rfl
      have g6 := hcell 6 (.int .i64 x.c.mx) rfl
      have g7 := hcell 7 (.int .i64 x.c.mr) rfl
      have g8 := hcell 8 (.int .i64 x.c.tmo) rfl
      have g9 := hcell 9 (.int .i64 x.c.bl) rfl
      have g10 := hcell 10 (.int .i64 x.t) rfl
      rw [Nat.add_zero] at g0
      clear hcell
      have hbA : Below wr.heap.size wr (wr.alloc (.cells #[.int .i64 x.kind, .int .i64 x.a, .string x.s, .int .i64 x.c.ch, .bool x.c.dyn, .int .i64 x.c.mn, .int .i64 x.c.mx, .int .i64 x.c.mr, .int .i64 x.c.tmo, .int .i64 x.c.bl, .int .i64 x.t] 33)) := (Below.refl _ _).alloc (Nat.le_refl _) _
      have tA := t2.below hbA
      have fxA := hfx.below hbA
      have hST : Hid (x.kind ≤ last → ∀ w', Trio 0 o2 w' gb fb wb ls2 ts2 lv2 tv2 m2 sv2 rv2 M2 nv2 kv2 qv2 → Calls Tryz.prog 12 #[.pointer (some ⟨gb, 0, none⟩), .agg #[.int .i64 x.kind, .int .i64 x.a, .string x.s, .int .i64 x.c.ch, .bool x.c.dyn, .int .i64 x.c.mn, .int .i64 x.c.mx, .int .i64 x.c.mr, .int .i64 x.c.tmo, .int .i64 x.c.bl, .int .i64 x.t]] w' fun r w'' => r = .returned (.bool true) ∧ After 0 o2 w' gb fb wb ls2 ts2 lv2 tv2 (tot X k + x.s.size + 6) w'') := fun _ w' h' => step_all h' hok (by omega) x (by omega)
      by_cases h1 : x.kind = 1
      · have h1' : (x.kind == 1) = true := by simp [h1]
        clear h1 hST
        go_wp2_with fail
        refine (HL.out _ _ _ _ _ _ _ _ _ _ tA hok (by omega)).mono ?_
        rintro e w3 ⟨rfl, o3, ls3, ts3, lv3, tv3, t3, fr3, hl3⟩
        clear g0 g1 g2 g3 g4 g5 g6 g7 g8 g9 g10
        go_wp2
        exact ⟨⟨k + 1, by omega, rfl, by go_num, o3, ls3, ts3, lv3, tv3, _, _, _, _, _, m2, M2, t3, hok.mono (by have := HT.out; omega), fxA.trans (fr3.toX (by omega)), by omega⟩, by simp [intOf]; omega⟩
      · have h1' : (x.kind == 1) = false := by simpa using h1
        by_cases h2 : x.kind ≤ last
        · have hst := hST.out h2
          have HS : Hid _ := hst
          clear hst hST
          go_wp2_with fail
          refine (HS.out _ tA).mono ?_
          rintro e w3 ⟨rfl, o3, sv3, rv3, nv3, kv3, qv3, m3, M3, t3, hok3, fx3⟩
          clear g0 g1 g2 g3 g4 g5 g6 g7 g8 g9 g10
          go_wp2
          exact ⟨⟨k + 1, by omega, rfl, by go_num, o3, ls2, ts2, lv2, tv2, _, _, _, _, _, m3, M3, t3, by rw [HT.out]; exact hok3, fxA.trans fx3, by omega⟩, by simp [intOf]; omega⟩
        · clear hST
          go_wp2
          exact ⟨⟨k + 1, by omega, rfl, by go_num, o2, ls2, ts2, lv2, tv2, _, _, _, _, _, m2, M2, tA, hok.mono (by have := HT.out; omega), fxA, by omega⟩, by simp [intOf]; omega⟩
    · have hkn : k = n := by omega
      have hkI : ¬ ((k : Int) < n) := by omega
      go_wp2_with fail
      refine (HL.out _ _ _ _ _ _ _ _ _ _ t2 hok (by omega)).mono ?_
      rintro e w3 ⟨rfl, o3, ls3, ts3, lv3, tv3, t3, fr3, hl3⟩
      go_wp2
      go_ret
      have fxF := hfx.trans (fr3.toX (by omega))
      refine ⟨rfl, ?_⟩
      exact ⟨fxF.os.trans hb1.os, fxF.tape.trans hb1.tape, fxF.output.trans hb1.output, Nat.le_trans hb1.size fxF.size, fun g hg => (fxF.block g (Nat.lt_of_lt_of_le hg hb1.size) (by rw [ho1 g hg]; exact .inl (Nat.le_refl _))).trans (hb1.block g hg)⟩

set_option maxRecDepth 100000 in
set_option maxHeartbeats 1000000 in
theorem plays_any (c : Cfg) (sp : Option Addr) (n cap : Nat) (X : Nat → St) (last : Int) (w : World) (hX : IsSteps w sp n X) (hsum : tot X n ≤ 8000000) :
    Calls Tryz.prog 8 #[c.val, .slice sp n cap, .int .i64 last] w fun r w' => r = .returned (.bool true) ∧ Below w.heap.size w w' := by
  cases h : c.ok
  · have k1 : Hid (∀ w, Calls Tryz.prog 10 #[c.val] w fun r w' => r = .returned (.tuple #[.pointer none, .bool true]) ∧ Below w.heap.size w w') := fun w => begin_no c w h
    unfold Cfg.val at *
    go_enter Tryz.func8, Tryz.ntmps8
    go_wp2_with fail
    refine (k1.out _).mono ?_
    rintro e w1 ⟨rfl, hb⟩
    go_wp2
    go_ret
    exact ⟨rfl, ((Below.refl _ _).alloc (Nat.le_refl _) _).trans (hb.mono (by simp))⟩
  · exact plays_yes c h sp n cap X last w hX hsum

end Go.Proofs.YtlafkpaljibonaaGreat

namespace Go.Proofs.YtlafkpaljibonaaGreat.script
open Go.ChangeShapes Go.WideShapes Go.ChangeAt Go.RowKit Go.Joins Go.Deep Go.Proofs.YtlafkpaljibonaaGreat

set_option maxRecDepth 100000 in
theorem own : ownKnob Tryz.prog.godebug = none := by kernel_rfl
set_option maxRecDepth 100000 in
theorem laidOut : laidOutB Tryz.prog = true := by kernel_rfl
set_option maxRecDepth 100000 in
theorem cellsCfg : Tryz.prog.cellsOf 23 = 7 := by kernel_rfl
set_option maxRecDepth 100000 in
theorem cellsInt : Tryz.prog.cellsOf 3 = 1 := by kernel_rfl
set_option maxRecDepth 100000 in
theorem cellsBool : Tryz.prog.cellsOf 4 = 1 := by kernel_rfl
set_option maxRecDepth 100000 in
theorem cellsStr : Tryz.prog.cellsOf 9 = 1 := by kernel_rfl
set_option maxRecDepth 100000 in
theorem cellsStep : Tryz.prog.cellsOf 33 = 11 := by kernel_rfl

theorem array7 {α : Type} {cs : Array α} (h : cs.size = 7) : ∃ c0 c1 c2 c3 c4 c5 c6, cs = #[c0, c1, c2, c3, c4, c5, c6] := by
  obtain ⟨l⟩ := cs
  match l, h with
  | [c0, c1, c2, c3, c4, c5, c6], _ => exact ⟨c0, c1, c2, c3, c4, c5, c6, rfl⟩

section
variable {P : Program} {H : Type} {enc : TypeId × Value → H} {w : World} {base : Nat} {spare : Nat → Bool} {held : Bool}
theorem trod_struct7 {t : TypeId} {f0 f1 f2 f3 f4 f5 f6 : Field} {fuel : Nat} {cs : List Value} {x : DataW H × List MemPlace} (ht : P.underlying t = some (.struct #[f0, f1, f2, f3, f4, f5, f6])) (h : DataW.trod enc P w base spare held fuel t cs = some x) :
    ∃ y0 y1 y2 y3 y4 y5 y6 n, DataW.trod enc P w base spare held n f0.type ((cs.drop f0.offset).take (P.cellsOf f0.type)) = some y0 ∧ DataW.trod enc P w base spare held n f1.type ((cs.drop f1.offset).take (P.cellsOf f1.type)) = some y1 ∧ DataW.trod enc P w base spare held n f2.type ((cs.drop f2.offset).take (P.cellsOf f2.type)) = some y2 ∧ DataW.trod enc P w base spare held n f3.type ((cs.drop f3.offset).take (P.cellsOf f3.type)) = some y3 ∧ DataW.trod enc P w base spare held n f4.type ((cs.drop f4.offset).take (P.cellsOf f4.type)) = some y4 ∧ DataW.trod enc P w base spare held n f5.type ((cs.drop f5.offset).take (P.cellsOf f5.type)) = some y5 ∧ DataW.trod enc P w base spare held n f6.type ((cs.drop f6.offset).take (P.cellsOf f6.type)) = some y6 := by
  obtain ⟨xs, n, _, rfl, hl, hlen, hf⟩ := DataW.trod_struct ht h
  match xs, hlen with
  | [y0, y1, y2, y3, y4, y5, y6], _ => exact ⟨y0, y1, y2, y3, y4, y5, y6, n, by simpa using hf 0 f0 rfl, by simpa using hf 1 f1 rfl, by simpa using hf 2 f2 rfl, by simpa using hf 3 f3 rfl, by simpa using hf 4 f4 rfl, by simpa using hf 5 f5 rfl, by simpa using hf 6 f6 rfl⟩

theorem open_agg7 {r : Reach} {b0 : Nat} {t : TypeId} {f0 f1 f2 f3 f4 f5 f6 : Field} {v : Value} {d : DataW H} {p : List MemPlace} (hs : P.underlying t = some (.struct #[f0, f1, f2, f3, f4, f5, f6])) (hone : oneCellFields P #[f0, f1, f2, f3, f4, f5, f6] = true) (hC : P.cellsOf t = 7)
    (hv : Value.okWide P w r b0 t v) (h : DataW.Trod enc P w base spare held t v d p) :
    ∃ (v0 v1 v2 v3 v4 v5 v6 : Value) (y0 y1 y2 y3 y4 y5 y6 : DataW H × List MemPlace) (n : Nat), v = .agg #[v0, v1, v2, v3, v4, v5, v6] ∧ DataW.trod enc P w base spare held n f0.type [v0] = some y0 ∧ DataW.trod enc P w base spare held n f1.type [v1] = some y1 ∧ DataW.trod enc P w base spare held n f2.type [v2] = some y2 ∧ DataW.trod enc P w base spare held n f3.type [v3] = some y3 ∧ DataW.trod enc P w base spare held n f4.type [v4] = some y4 ∧ DataW.trod enc P w base spare held n f5.type [v5] = some y5 ∧ DataW.trod enc P w base spare held n f6.type [v6] = some y6 := by
  obtain ⟨cs, rfl, hsz⟩ := okWide_struct hs hv
  obtain ⟨c0, c1, c2, c3, c4, c5, c6, rfl⟩ := array7 (hsz.trans hC)
  obtain ⟨fuel, hf⟩ := h
  obtain ⟨y0, y1, y2, y3, y4, y5, y6, n, h0, h1, h2, h3, h4, h5, h6⟩ := trod_struct7 hs hf
  obtain ⟨o0, k0⟩ := hone_of hone 0 f0 rfl
  obtain ⟨o1, k1⟩ := hone_of hone 1 f1 rfl
  obtain ⟨o2, k2⟩ := hone_of hone 2 f2 rfl
  obtain ⟨o3, k3⟩ := hone_of hone 3 f3 rfl
  obtain ⟨o4, k4⟩ := hone_of hone 4 f4 rfl
  obtain ⟨o5, k5⟩ := hone_of hone 5 f5 rfl
  obtain ⟨o6, k6⟩ := hone_of hone 6 f6 rfl
  exact ⟨c0, c1, c2, c3, c4, c5, c6, y0, y1, y2, y3, y4, y5, y6, n, rfl, by simpa [Value.cells, o0, k0] using h0, by simpa [Value.cells, o1, k1] using h1, by simpa [Value.cells, o2, k2] using h2, by simpa [Value.cells, o3, k3] using h3, by simpa [Value.cells, o4, k4] using h4, by simpa [Value.cells, o5, k5] using h5, by simpa [Value.cells, o6, k6] using h6⟩
end

set_option maxRecDepth 100000 in
/-- A row of settings is one of ours. -/
theorem cfg_of {H : Type} {enc : TypeId × Value → H} {W : World} {r : Reach} {b0 : Nat} {v : Value} {d : DataW H} {p : List MemPlace} (hv : Value.okWide Tryz.prog W r b0 23 v)
    (h : DataW.Trod enc Tryz.prog W 0 (fun _ => true) true 23 v d p) : ∃ c : Cfg, v = c.val := by
  obtain ⟨v0, v1, v2, v3, v4, v5, v6, y0, y1, y2, y3, y4, y5, y6, n, rfl, h0, h1, h2, h3, h4, h5, h6⟩ := open_agg7 Tryz.underlying23 (by kernel_rfl) cellsCfg hv h
  obtain ⟨k0, z0, -, -⟩ := DataW.trod_int Tryz.underlying3 h0
  obtain ⟨k1, z1, -⟩ := DataW.trod_bool Tryz.underlying4 h1
  obtain ⟨k2, z2, -, -⟩ := DataW.trod_int Tryz.underlying3 h2
  obtain ⟨k3, z3, -, -⟩ := DataW.trod_int Tryz.underlying3 h3
  obtain ⟨k4, z4, -, -⟩ := DataW.trod_int Tryz.underlying3 h4
  obtain ⟨k5, z5, -, -⟩ := DataW.trod_int Tryz.underlying3 h5
  obtain ⟨k6, z6, -, -⟩ := DataW.trod_int Tryz.underlying3 h6
  simp at z0 z1 z2 z3 z4 z5 z6
  subst z0 z1 z2 z3 z4 z5 z6
  exact ⟨⟨k0, k1, k2, k3, k4, k5, k6⟩, rfl⟩

theorem bulk_pos {H : Type} (d : DataW H) : 1 ≤ Rows.uptoBulk d := by
  rcases d with l | _ | _ | ⟨_, _⟩ | _ | ⟨_, _⟩ | _ | _
  · cases l <;> simp [Rows.uptoBulk]
  all_goals simp [Rows.uptoBulk]

theorem bulkAll_append {H : Type} : ∀ (a b : List (DataW H)), Rows.uptoBulkAll (a ++ b) = Rows.uptoBulkAll a + Rows.uptoBulkAll b
  | [], b => by simp [Rows.uptoBulkAll]
  | x :: a, b => by
    have := bulkAll_append a b
    simp only [List.cons_append, Rows.uptoBulkAll, this]
    omega

theorem bulk_tot {H : Type} (D : Nat → DataW H) (X : Nat → St) : ∀ n, (∀ k, k < n → (X k).s.size + 6 ≤ Rows.uptoBulk (D k)) → tot X n ≤ Rows.uptoBulkAll ((List.range n).map D)
  | 0, _ => Nat.zero_le _
  | n + 1, h => by
    have ih := bulk_tot D X n (fun k hk => h k (by omega))
    have hn := h n (by omega)
    rw [List.range_succ, List.map_append, bulkAll_append]
    simp only [tot, List.map_cons, List.map_nil, Rows.uptoBulkAll]
    omega

set_option maxRecDepth 100000 in
set_option maxHeartbeats 1000000 in
theorem step_of {H : Type} {enc : TypeId × Value → H} {W : World} {n : Nat} {cs : List Value} {x : DataW H × List MemPlace} (hl : cs.length = 11) (h : DataW.trod enc Tryz.prog W 0 (fun _ => true) true n 33 cs = some x) :
    ∃ s : St, cs = s.cells ∧ s.s.size + 6 ≤ Rows.uptoBulk x.1 := by
  obtain ⟨xs, n', _, rfl, hl', hlen, hf⟩ := DataW.trod_struct Tryz.underlying33 h
  match cs, hl with
  | [v0, v1, v2, v3, v4, v5, v6, v7, v8, v9, v10], _ =>
    match xs, hlen with
    | [y0, y1, y2, y3, y4], _ =>
      have h0 := hf 0 _ rfl
      have h1 := hf 1 _ rfl
      have h2 := hf 2 _ rfl
      have h3 := hf 3 _ rfl
      have h4 := hf 4 _ rfl
      simp [cellsInt, cellsStr, cellsCfg] at h0 h1 h2 h3 h4
      obtain ⟨a0, z0, -, -⟩ := DataW.trod_int Tryz.underlying3 h0
      obtain ⟨a1, z1, -, -⟩ := DataW.trod_int Tryz.underlying3 h1
      obtain ⟨a2, z2, e2, -⟩ := DataW.trod_string Tryz.underlying9 h2
      obtain ⟨a4, z4, -, -⟩ := DataW.trod_int Tryz.underlying3 h4
      obtain ⟨c0, c1, c2, c3, c4, c5, c6, n3, g0, g1, g2, g3, g4, g5, g6⟩ := trod_struct7 Tryz.underlying23 h3
      simp [cellsInt, cellsBool] at g0 g1 g2 g3 g4 g5 g6
      obtain ⟨b0, q0, -, -⟩ := DataW.trod_int Tryz.underlying3 g0
      obtain ⟨b1, q1, -⟩ := DataW.trod_bool Tryz.underlying4 g1
      obtain ⟨b2, q2, -, -⟩ := DataW.trod_int Tryz.underlying3 g2
      obtain ⟨b3, q3, -, -⟩ := DataW.trod_int Tryz.underlying3 g3
      obtain ⟨b4, q4, -, -⟩ := DataW.trod_int Tryz.underlying3 g4
      obtain ⟨b5, q5, -, -⟩ := DataW.trod_int Tryz.underlying3 g5
      obtain ⟨b6, q6, -, -⟩ := DataW.trod_int Tryz.underlying3 g6
      simp at z0 z1 z2 z4 q0 q1 q2 q3 q4 q5 q6
      subst z0 z1 z2 z4 q0 q1 q2 q3 q4 q5 q6
      refine ⟨⟨a0, a1, a2, ⟨b0, b1, b2, b3, b4, b5, b6⟩, a4⟩, rfl, ?_⟩
      subst e2
      have e : a2.data.toList.length = a2.size := by rw [Array.length_toList]; rfl
      have b0 := bulk_pos y0.1
      have b1 := bulk_pos y1.1
      have b3 := bulk_pos y3.1
      have b4 := bulk_pos y4.1
      simp only [List.map_cons, List.map_nil, Rows.uptoBulk, Rows.uptoBulkAll]
      omega

set_option maxRecDepth 100000 in
theorem steps_of {H : Type} {enc : TypeId × Value → H} {W : World} {a : Option Addr} {len cap : Nat} {d : DataW H} {p : List MemPlace}
    (h : DataW.Trod enc Tryz.prog W 0 (fun _ => true) true 26 (.slice a len cap) d p) : ∃ X, IsSteps W a len X ∧ tot X len ≤ Rows.uptoBulk d := by
  obtain ⟨fuel, hf⟩ := h
  rcases open_slice Tryz.underlying26 hf with ⟨hcs, _⟩ | ⟨x, l, c, m, n, D, Pl, hcs, _, hl, hm, hmm, hd, hx⟩
  · simp [Value.cells] at hcs
    obtain ⟨rfl, rfl, rfl⟩ := hcs
    exact ⟨fun _ => ⟨0, 0, ⟨#[]⟩, ⟨0, false, 0, 0, 0, 0, 0⟩, 0⟩, .inl rfl, Nat.zero_le _⟩
  · simp [Value.cells] at hcs
    obtain ⟨rfl, rfl, rfl⟩ := hcs
    simp only [Prod.mk.injEq] at hd
    obtain ⟨rfl, -⟩ := hd
    have hle : len ≤ m := by rw [hmm]; split <;> omega
    rw [cellsStep] at hx
    have each : ∀ k, k < len → ∃ s : St, (∀ j u, s.cells[j]? = some u → W.cell? ((x.add (k * 11)).add j) = some u) ∧ s.s.size + 6 ≤ Rows.uptoBulk (D k) := by
      intro k hk
      obtain ⟨cs, h1, h2⟩ := hx k (by omega)
      obtain ⟨_, hlc, hcell⟩ := World.cells?_some h1
      obtain ⟨s, rfl, hb⟩ := step_of hlc h2
      refine ⟨s, ?_, hb⟩
      intro j u hu
      obtain ⟨hj, -⟩ := List.getElem?_eq_some_iff.1 hu
      have := hcell j (by rw [hlc] at hj; exact hj)
      rw [this]; exact hu
    haveI : Inhabited St := ⟨⟨0, 0, ⟨#[]⟩, ⟨0, false, 0, 0, 0, 0, 0⟩, 0⟩⟩
    obtain ⟨X, hX⟩ := choose_lt each
    refine ⟨X, ?_, ?_⟩
    · by_cases h0 : len = 0
      · exact .inl h0
      · right
        obtain ⟨b, off, spot⟩ := x
        have hc := (hX 0 (by omega)).1 0 (.int .i64 (X 0).kind) rfl
        have hspot : spot = none := by simpa [Addr.add] using World.cell?_spot hc
        subst hspot
        have hadd : ∀ i j : Nat, ((⟨b, i, none⟩ : Addr).add j) = ⟨b, i + j, none⟩ := fun i j => by unfold Addr.add; split <;> simp_all
        refine ⟨b, off, rfl, ?_, ?_⟩
        · have := World.block_lt_of_cell? _ _ hc
          rw [hadd, hadd] at this
          exact this
        · intro k hk j u hu
          have := (hX k hk).1 j u hu
          rw [hadd, hadd] at this
          exact this
    · have := bulk_tot D X len (fun k hk => (hX k hk).2)
      simp only [Rows.uptoBulk]
      omega

end Go.Proofs.YtlafkpaljibonaaGreat.script

namespace Go.Proofs.YtlafkpaljibonaaGreat.feeds
open Go.ChangeShapes Go.WideShapes Go.ChangeAt Go.RowKit Go.Joins Go.Deep Go.Proofs.YtlafkpaljibonaaGreat Go.Proofs.YtlafkpaljibonaaGreat.script

set_option maxRecDepth 100000 in
set_option maxHeartbeats 1000000 in
theorem walk (c : Cfg) (sp : Option Addr) (n cap : Nat) (X : Nat → St) (w : World) (hX : IsSteps w sp n X) (hsum : tot X n ≤ 8000000) :
    Calls Tryz.prog 4 #[c.val, .slice sp n cap] w fun r w' => r = .returned (.bool true) ∧ Below w.heap.size w w' := by
  have hb0 : Below w.heap.size w (w.alloc (.cells #[.int .i64 c.ch, .bool c.dyn, .int .i64 c.mn, .int .i64 c.mx, .int .i64 c.mr, .int .i64 c.tmo, .int .i64 c.bl] 23)) := (Below.refl _ _).alloc (Nat.le_refl _) _
  have hX1 : IsSteps (w.alloc (.cells #[.int .i64 c.ch, .bool c.dyn, .int .i64 c.mn, .int .i64 c.mx, .int .i64 c.mr, .int .i64 c.tmo, .int .i64 c.bl] 23)) sp n X := by
    rcases hX with e | ⟨b, off, e, hbl, hcell⟩
    · exact .inl e
    · exact .inr ⟨b, off, e, Nat.lt_of_lt_of_le hbl hb0.size, fun k hk j u hu => by rw [hb0.cell (by exact hbl)]; exact hcell k hk j u hu⟩
  have k1 : Hid (∀ w, IsSteps w sp n X → Calls Tryz.prog 8 #[c.val, .slice sp n cap, .int .i64 4] w fun r w' => r = .returned (.bool true) ∧ Below w.heap.size w w') := fun w h => plays_any c sp n cap X 4 w h hsum
  clear hX hsum
  unfold Cfg.val at *
  go_enter Tryz.func4, Tryz.ntmps4
  go_wp2_with fail
  refine (k1.out _ hX1).mono ?_
  rintro e w1 ⟨rfl, hb⟩
  go_wp2
  go_ret
  exact ⟨rfl, hb0.trans (hb.mono (by simp))⟩

set_option maxRecDepth 100000 in
theorem contract (H : Type) (enc : TypeId × Value → H) (W : World) (base : Nat) (args : Array Value) (ds gs : List (DataW H)) (before : List MemPlace)
    (hval : ∀ (j : Nat) t v, Tryz.f4.params[j]? = some t → args[j]? = some v → Value.okWide Tryz.prog W .any base t v)
    (hW : DataW.Whole enc Tryz.prog Tryz.f4.params.toList Rows.feedsSpec.vars false W args.toList ds gs before) (hk : Rows.uptoSmall H (ds ++ gs) = true) :
    Calls Tryz.prog 4 args W fun e W' => ∃ v, e = .returned v ∧ Rows.feedsSpec.post enc Tryz.prog Tryz.f4 false true false false W args v W' := by
  have hW' := hW
  obtain ⟨p, q, hA0, hV, rfl, hfz, hnd⟩ := hW
  have hA : DataW.TrodAll enc Tryz.prog W 0 (fun _ => true) true Tryz.f4.params.toList args.toList ds p := hA0
  rw [Tryz.params4] at hA hval
  obtain ⟨v0, vs0, d0, ds0, p0, q0, hargs, rfl, rfl, h0, r0⟩ := trodAll_cons hA
  obtain ⟨v1, vs1, d1, ds1, p1, q1, rfl, rfl, rfl, h1, r1⟩ := trodAll_cons r0
  obtain ⟨rfl, rfl, rfl⟩ := trodAll_nil r1
  obtain rfl : args = #[v0, v1] := by cases args; simp_all
  obtain ⟨rfl, rfl⟩ := trodVars_none hV
  have k0 := h0
  have k1 := h1
  have lt0 : ∀ x ∈ p0, x.block < W.heap.size := by obtain ⟨m, hm⟩ := k0; exact DataW.trod_lt m _ _ _ hm
  have lt1 : ∀ x ∈ p1, x.block < W.heap.size := by obtain ⟨m, hm⟩ := k1; exact DataW.trod_lt m _ _ _ hm
  obtain ⟨c, rfl⟩ := cfg_of (hval 0 23 v0 rfl rfl) h0
  obtain ⟨a1, len1, cap1, rfl⟩ := okWide_slice Tryz.underlying26 (hval 1 26 v1 rfl rfl)
  obtain ⟨X, hX, hsum⟩ := steps_of h1
  clear hA0
  simp only [List.append_nil] at hW' hk
  have hb : Rows.uptoBulkAll [d0, d1] ≤ 1048576 := of_decide_eq_true hk
  simp only [Rows.uptoBulkAll] at hb
  refine (walk c a1 len1 cap1 X W hX (by omega)).mono fun e W' ⟨he, bel⟩ => ?_
  subst he
  exact ⟨_, rfl, _, _, _, [], _, [], hW', trodAll_mk1 (shut_bool Tryz.underlying4 _), (trodAll_cons_mk (Below.trod laidOut (by kernel_rfl) (of_decide_eq_true (by kernel_rfl)) k0 bel lt0) (trodAll_cons_mk (Below.trod laidOut (by kernel_rfl) (of_decide_eq_true (by kernel_rfl)) k1 bel lt1) trodAll_mk0)), rfl, bel.frame _, fun h => by cases h⟩

set_option maxRecDepth 100000 in
theorem lifted (os : Os) (started : os.Started) (H : Type) (enc : TypeId × Value → H) (F : Stop.Interp) :
    ReturnsInHanded {} Tryz.checked os 4 .any ((Rows.OpenSpec.upto Rows.feedsSpec).pre6 enc Tryz.prog Tryz.f4 Rows.feedsUptoRow.domain false) (((Rows.OpenSpec.upto Rows.feedsSpec).at F).post enc Tryz.prog Tryz.f4 false true false false) := by
  refine returnsInHanded_of_cond (C := Tryz.checked) (s := Rows.OpenSpec.upto Rows.feedsSpec) (k := Rows.uptoSmall) rfl own started (by kernel_rfl) Tryz.func4
    (OpenSpec.witness (enc := enc) (C := Tryz.checked) (s := Rows.OpenSpec.upto Rows.feedsSpec) (k := Rows.uptoSmall) rfl false ⟨#[], #[.agg #[.int .i64 0, .bool false, .int .i64 0, .int .i64 0, .int .i64 0, .int .i64 0, .int .i64 0], .slice none 0 0], []⟩ 8 (by kernel_rfl) (by kernel_rfl) (by kernel_rfl)
      (x := ([.agg [.lit (.int .i64 0), .lit (.bool false), .lit (.int .i64 0), .lit (.int .i64 0), .lit (.int .i64 0), .lit (.int .i64 0), .lit (.int .i64 0)], .nil], [], [])) (by kernel_rfl) rfl (by kernel_rfl)) ?_
  intro W base args ds gs before hval hW _ hk _
  exact contract H enc W base args ds gs before hval hW hk

set_option maxRecDepth 100000 in
theorem proved : Rows.FeedsUptoSaid :=
  OpenClaim.holds_of_cond 4 Tryz.f4 rfl rfl rfl rfl rfl rfl rfl ⟨rfl, rfl, rfl, rfl, rfl⟩ rfl rfl rfl rfl rfl (by kernel_rfl) Tryz.func4 (by kernel_rfl)
    (of_decide_eq_true (by kernel_rfl)) (by unfold Func.isWrapper; first | (rw [if_pos (by decide +kernel)]; kernel_rfl) | (rw [if_neg (by decide +kernel)]; exact ⟨rfl, rfl⟩))
    (fun os started H enc _ F => lifted os started H enc F)
#print axioms proved
end Go.Proofs.YtlafkpaljibonaaGreat.feeds

namespace Go.Proofs.YtlafkpaljibonaaGreat.works
open Go.ChangeShapes Go.WideShapes Go.ChangeAt Go.RowKit Go.Joins Go.Deep Go.Proofs.YtlafkpaljibonaaGreat Go.Proofs.YtlafkpaljibonaaGreat.script

set_option maxRecDepth 100000 in
set_option maxHeartbeats 1000000 in
theorem walk (c : Cfg) (sp : Option Addr) (n cap : Nat) (X : Nat → St) (w : World) (hX : IsSteps w sp n X) (hsum : tot X n ≤ 8000000) :
    Calls Tryz.prog 5 #[c.val, .slice sp n cap] w fun r w' => r = .returned (.bool true) ∧ Below w.heap.size w w' := by
  have hb0 : Below w.heap.size w (w.alloc (.cells #[.int .i64 c.ch, .bool c.dyn, .int .i64 c.mn, .int .i64 c.mx, .int .i64 c.mr, .int .i64 c.tmo, .int .i64 c.bl] 23)) := (Below.refl _ _).alloc (Nat.le_refl _) _
  have hX1 : IsSteps (w.alloc (.cells #[.int .i64 c.ch, .bool c.dyn, .int .i64 c.mn, .int .i64 c.mx, .int .i64 c.mr, .int .i64 c.tmo, .int .i64 c.bl] 23)) sp n X := by
    rcases hX with e | ⟨b, off, e, hbl, hcell⟩
    · exact .inl e
    · exact .inr ⟨b, off, e, Nat.lt_of_lt_of_le hbl hb0.size, fun k hk j u hu => by rw [hb0.cell (by exact hbl)]; exact hcell k hk j u hu⟩
  have k1 : Hid (∀ w, IsSteps w sp n X → Calls Tryz.prog 8 #[c.val, .slice sp n cap, .int .i64 8] w fun r w' => r = .returned (.bool true) ∧ Below w.heap.size w w') := fun w h => plays_any c sp n cap X 8 w h hsum
  clear hX hsum
  unfold Cfg.val at *
  go_enter Tryz.func5, Tryz.ntmps5
  go_wp2_with fail
  refine (k1.out _ hX1).mono ?_
  rintro e w1 ⟨rfl, hb⟩
  go_wp2
  go_ret
  exact ⟨rfl, hb0.trans (hb.mono (by simp))⟩

set_option maxRecDepth 100000 in
theorem contract (H : Type) (enc : TypeId × Value → H) (W : World) (base : Nat) (args : Array Value) (ds gs : List (DataW H)) (before : List MemPlace)
    (hval : ∀ (j : Nat) t v, Tryz.f5.params[j]? = some t → args[j]? = some v → Value.okWide Tryz.prog W .any base t v)
    (hW : DataW.Whole enc Tryz.prog Tryz.f5.params.toList Rows.worksSpec.vars false W args.toList ds gs before) (hk : Rows.uptoSmall H (ds ++ gs) = true) :
    Calls Tryz.prog 5 args W fun e W' => ∃ v, e = .returned v ∧ Rows.worksSpec.post enc Tryz.prog Tryz.f5 false true false false W args v W' := by
  have hW' := hW
  obtain ⟨p, q, hA0, hV, rfl, hfz, hnd⟩ := hW
  have hA : DataW.TrodAll enc Tryz.prog W 0 (fun _ => true) true Tryz.f5.params.toList args.toList ds p := hA0
  rw [Tryz.params5] at hA hval
  obtain ⟨v0, vs0, d0, ds0, p0, q0, hargs, rfl, rfl, h0, r0⟩ := trodAll_cons hA
  obtain ⟨v1, vs1, d1, ds1, p1, q1, rfl, rfl, rfl, h1, r1⟩ := trodAll_cons r0
  obtain ⟨rfl, rfl, rfl⟩ := trodAll_nil r1
  obtain rfl : args = #[v0, v1] := by cases args; simp_all
  obtain ⟨rfl, rfl⟩ := trodVars_none hV
  have k0 := h0
  have k1 := h1
  have lt0 : ∀ x ∈ p0, x.block < W.heap.size := by obtain ⟨m, hm⟩ := k0; exact DataW.trod_lt m _ _ _ hm
  have lt1 : ∀ x ∈ p1, x.block < W.heap.size := by obtain ⟨m, hm⟩ := k1; exact DataW.trod_lt m _ _ _ hm
  obtain ⟨c, rfl⟩ := cfg_of (hval 0 23 v0 rfl rfl) h0
  obtain ⟨a1, len1, cap1, rfl⟩ := okWide_slice Tryz.underlying26 (hval 1 26 v1 rfl rfl)
  obtain ⟨X, hX, hsum⟩ := steps_of h1
  clear hA0
  simp only [List.append_nil] at hW' hk
  have hb : Rows.uptoBulkAll [d0, d1] ≤ 1048576 := of_decide_eq_true hk
  simp only [Rows.uptoBulkAll] at hb
  refine (walk c a1 len1 cap1 X W hX (by omega)).mono fun e W' ⟨he, bel⟩ => ?_
  subst he
  exact ⟨_, rfl, _, _, _, [], _, [], hW', trodAll_mk1 (shut_bool Tryz.underlying4 _), (trodAll_cons_mk (Below.trod laidOut (by kernel_rfl) (of_decide_eq_true (by kernel_rfl)) k0 bel lt0) (trodAll_cons_mk (Below.trod laidOut (by kernel_rfl) (of_decide_eq_true (by kernel_rfl)) k1 bel lt1) trodAll_mk0)), rfl, bel.frame _, fun h => by cases h⟩

set_option maxRecDepth 100000 in
theorem lifted (os : Os) (started : os.Started) (H : Type) (enc : TypeId × Value → H) (F : Stop.Interp) :
    ReturnsInHanded {} Tryz.checked os 5 .any ((Rows.OpenSpec.upto Rows.worksSpec).pre6 enc Tryz.prog Tryz.f5 Rows.worksUptoRow.domain false) (((Rows.OpenSpec.upto Rows.worksSpec).at F).post enc Tryz.prog Tryz.f5 false true false false) := by
  refine returnsInHanded_of_cond (C := Tryz.checked) (s := Rows.OpenSpec.upto Rows.worksSpec) (k := Rows.uptoSmall) rfl own started (by kernel_rfl) Tryz.func5
    (OpenSpec.witness (enc := enc) (C := Tryz.checked) (s := Rows.OpenSpec.upto Rows.worksSpec) (k := Rows.uptoSmall) rfl false ⟨#[], #[.agg #[.int .i64 0, .bool false, .int .i64 0, .int .i64 0, .int .i64 0, .int .i64 0, .int .i64 0], .slice none 0 0], []⟩ 8 (by kernel_rfl) (by kernel_rfl) (by kernel_rfl)
      (x := ([.agg [.lit (.int .i64 0), .lit (.bool false), .lit (.int .i64 0), .lit (.int .i64 0), .lit (.int .i64 0), .lit (.int .i64 0), .lit (.int .i64 0)], .nil], [], [])) (by kernel_rfl) rfl (by kernel_rfl)) ?_
  intro W base args ds gs before hval hW _ hk _
  exact contract H enc W base args ds gs before hval hW hk

set_option maxRecDepth 100000 in
theorem proved : Rows.WorksUptoSaid :=
  OpenClaim.holds_of_cond 5 Tryz.f5 rfl rfl rfl rfl rfl rfl rfl ⟨rfl, rfl, rfl, rfl, rfl⟩ rfl rfl rfl rfl rfl (by kernel_rfl) Tryz.func5 (by kernel_rfl)
    (of_decide_eq_true (by kernel_rfl)) (by unfold Func.isWrapper; first | (rw [if_pos (by decide +kernel)]; kernel_rfl) | (rw [if_neg (by decide +kernel)]; exact ⟨rfl, rfl⟩))
    (fun os started H enc _ F => lifted os started H enc F)
#print axioms proved
end Go.Proofs.YtlafkpaljibonaaGreat.works

namespace Go.Proofs.YtlafkpaljibonaaGreat.ticks
open Go.ChangeShapes Go.WideShapes Go.ChangeAt Go.RowKit Go.Joins Go.Deep Go.Proofs.YtlafkpaljibonaaGreat Go.Proofs.YtlafkpaljibonaaGreat.script

set_option maxRecDepth 100000 in
set_option maxHeartbeats 1000000 in
theorem walk (c : Cfg) (sp : Option Addr) (n cap : Nat) (X : Nat → St) (w : World) (hX : IsSteps w sp n X) (hsum : tot X n ≤ 8000000) :
    Calls Tryz.prog 6 #[c.val, .slice sp n cap] w fun r w' => r = .returned (.bool true) ∧ Below w.heap.size w w' := by
  have hb0 : Below w.heap.size w (w.alloc (.cells #[.int .i64 c.ch, .bool c.dyn, .int .i64 c.mn, .int .i64 c.mx, .int .i64 c.mr, .int .i64 c.tmo, .int .i64 c.bl] 23)) := (Below.refl _ _).alloc (Nat.le_refl _) _
  have hX1 : IsSteps (w.alloc (.cells #[.int .i64 c.ch, .bool c.dyn, .int .i64 c.mn, .int .i64 c.mx, .int .i64 c.mr, .int .i64 c.tmo, .int .i64 c.bl] 23)) sp n X := by
    rcases hX with e | ⟨b, off, e, hbl, hcell⟩
    · exact .inl e
    · exact .inr ⟨b, off, e, Nat.lt_of_lt_of_le hbl hb0.size, fun k hk j u hu => by rw [hb0.cell (by exact hbl)]; exact hcell k hk j u hu⟩
  have k1 : Hid (∀ w, IsSteps w sp n X → Calls Tryz.prog 8 #[c.val, .slice sp n cap, .int .i64 9] w fun r w' => r = .returned (.bool true) ∧ Below w.heap.size w w') := fun w h => plays_any c sp n cap X 9 w h hsum
  clear hX hsum
  unfold Cfg.val at *
  go_enter Tryz.func6, Tryz.ntmps6
  go_wp2_with fail
  refine (k1.out _ hX1).mono ?_
  rintro e w1 ⟨rfl, hb⟩
  go_wp2
  go_ret
  exact ⟨rfl, hb0.trans (hb.mono (by simp))⟩

set_option maxRecDepth 100000 in
theorem contract (H : Type) (enc : TypeId × Value → H) (W : World) (base : Nat) (args : Array Value) (ds gs : List (DataW H)) (before : List MemPlace)
    (hval : ∀ (j : Nat) t v, Tryz.f6.params[j]? = some t → args[j]? = some v → Value.okWide Tryz.prog W .any base t v)
    (hW : DataW.Whole enc Tryz.prog Tryz.f6.params.toList Rows.ticksSpec.vars false W args.toList ds gs before) (hk : Rows.uptoSmall H (ds ++ gs) = true) :
    Calls Tryz.prog 6 args W fun e W' => ∃ v, e = .returned v ∧ Rows.ticksSpec.post enc Tryz.prog Tryz.f6 false true false false W args v W' := by
  have hW' := hW
  obtain ⟨p, q, hA0, hV, rfl, hfz, hnd⟩ := hW
  have hA : DataW.TrodAll enc Tryz.prog W 0 (fun _ => true) true Tryz.f6.params.toList args.toList ds p := hA0
  rw [Tryz.params6] at hA hval
  obtain ⟨v0, vs0, d0, ds0, p0, q0, hargs, rfl, rfl, h0, r0⟩ := trodAll_cons hA
  obtain ⟨v1, vs1, d1, ds1, p1, q1, rfl, rfl, rfl, h1, r1⟩ := trodAll_cons r0
  obtain ⟨rfl, rfl, rfl⟩ := trodAll_nil r1
  obtain rfl : args = #[v0, v1] := by cases args; simp_all
  obtain ⟨rfl, rfl⟩ := trodVars_none hV
  have k0 := h0
  have k1 := h1
  have lt0 : ∀ x ∈ p0, x.block < W.heap.size := by obtain ⟨m, hm⟩ := k0; exact DataW.trod_lt m _ _ _ hm
  have lt1 : ∀ x ∈ p1, x.block < W.heap.size := by obtain ⟨m, hm⟩ := k1; exact DataW.trod_lt m _ _ _ hm
  obtain ⟨c, rfl⟩ := cfg_of (hval 0 23 v0 rfl rfl) h0
  obtain ⟨a1, len1, cap1, rfl⟩ := okWide_slice Tryz.underlying26 (hval 1 26 v1 rfl rfl)
  obtain ⟨X, hX, hsum⟩ := steps_of h1
  clear hA0
  simp only [List.append_nil] at hW' hk
  have hb : Rows.uptoBulkAll [d0, d1] ≤ 1048576 := of_decide_eq_true hk
  simp only [Rows.uptoBulkAll] at hb
  refine (walk c a1 len1 cap1 X W hX (by omega)).mono fun e W' ⟨he, bel⟩ => ?_
  subst he
  exact ⟨_, rfl, _, _, _, [], _, [], hW', trodAll_mk1 (shut_bool Tryz.underlying4 _), (trodAll_cons_mk (Below.trod laidOut (by kernel_rfl) (of_decide_eq_true (by kernel_rfl)) k0 bel lt0) (trodAll_cons_mk (Below.trod laidOut (by kernel_rfl) (of_decide_eq_true (by kernel_rfl)) k1 bel lt1) trodAll_mk0)), rfl, bel.frame _, fun h => by cases h⟩

set_option maxRecDepth 100000 in
theorem lifted (os : Os) (started : os.Started) (H : Type) (enc : TypeId × Value → H) (F : Stop.Interp) :
    ReturnsInHanded {} Tryz.checked os 6 .any ((Rows.OpenSpec.upto Rows.ticksSpec).pre6 enc Tryz.prog Tryz.f6 Rows.ticksUptoRow.domain false) (((Rows.OpenSpec.upto Rows.ticksSpec).at F).post enc Tryz.prog Tryz.f6 false true false false) := by
  refine returnsInHanded_of_cond (C := Tryz.checked) (s := Rows.OpenSpec.upto Rows.ticksSpec) (k := Rows.uptoSmall) rfl own started (by kernel_rfl) Tryz.func6
    (OpenSpec.witness (enc := enc) (C := Tryz.checked) (s := Rows.OpenSpec.upto Rows.ticksSpec) (k := Rows.uptoSmall) rfl false ⟨#[], #[.agg #[.int .i64 0, .bool false, .int .i64 0, .int .i64 0, .int .i64 0, .int .i64 0, .int .i64 0], .slice none 0 0], []⟩ 8 (by kernel_rfl) (by kernel_rfl) (by kernel_rfl)
      (x := ([.agg [.lit (.int .i64 0), .lit (.bool false), .lit (.int .i64 0), .lit (.int .i64 0), .lit (.int .i64 0), .lit (.int .i64 0), .lit (.int .i64 0)], .nil], [], [])) (by kernel_rfl) rfl (by kernel_rfl)) ?_
  intro W base args ds gs before hval hW _ hk _
  exact contract H enc W base args ds gs before hval hW hk

set_option maxRecDepth 100000 in
theorem proved : Rows.TicksUptoSaid :=
  OpenClaim.holds_of_cond 6 Tryz.f6 rfl rfl rfl rfl rfl rfl rfl ⟨rfl, rfl, rfl, rfl, rfl⟩ rfl rfl rfl rfl rfl (by kernel_rfl) Tryz.func6 (by kernel_rfl)
    (of_decide_eq_true (by kernel_rfl)) (by unfold Func.isWrapper; first | (rw [if_pos (by decide +kernel)]; kernel_rfl) | (rw [if_neg (by decide +kernel)]; exact ⟨rfl, rfl⟩))
    (fun os started H enc _ F => lifted os started H enc F)
#print axioms proved
end Go.Proofs.YtlafkpaljibonaaGreat.ticks
