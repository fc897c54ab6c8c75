import Derived.Test.YtmjnengplfoiiaaGreatJ1
import Derived.Deep.RegionHeld3
import Derived.BigRegion
namespace Go.Proofs.YtmjnengplfoiiaaGreat
open Go.RowKit

theorem firstW_lt (l : List Req) (k a : Nat) (h : firstW l k = some a) : k ≤ a ∧ a < k + l.length := by
  induction l generalizing k with
  | nil => simp [firstW] at h
  | cons r l ih =>
    simp only [firstW] at h
    cases hr : (r.stage == 1)
    · rw [hr] at h
      have := ih (k + 1) h
      simp; omega
    · rw [hr] at h
      simp only [cond_true, Option.some.injEq] at h
      simp; omega

def noReq : Req := ⟨0, 0, 0, ⟨#[]⟩⟩

/-- One slot is looked at: if it is Idle, the first that waits is leased to it. -/
def PM.leaseAt (m : PM) (k : Nat) : PM :=
  match m.fw with
  | some a => cond ((m.slot k).st == 2) (m.lease a k (m.req.getD a noReq)) m
  | none => m

def PM.leaseTo (m : PM) : Nat → PM
  | 0 => m
  | k + 1 => (m.leaseTo k).leaseAt k

def PM.leaseWaiting (m : PM) : PM := m.leaseTo 6
def PM.settle (m : PM) : PM := (cond m.set.dyn m m.startMissing).leaseWaiting

section
variable {o : Nat → Tag} {q : Nat} {w : World} {b : Nat} {m : PM} {sv : Nat → Value} {rv : Value}

set_option maxRecDepth 100000 in
set_option maxHeartbeats 2000000 in
theorem leaseWaiting_any (h : FMem o q w b m sv rv) :
    Calls Tryz.prog 61 #[.pointer (some ⟨b, 0, none⟩)] w fun r w' => r = .returned (.tuple #[]) ∧ FMem o q w' b m.leaseWaiting sv rv ∧ Fr q o w o w' := by
  unfold PM.leaseWaiting
  go_enter Tryz.func61, Tryz.ntmps61
  go_wp2
  go_loopw [5] (fun i w' => ∃ k : Nat, k ≤ 6 ∧ i = .int .i64 k ∧ FMem o q w' b (m.leaseTo k) sv rv ∧ Fr q o w o w') (fun i _ => 6 - (intOf i).toNat)
  case atStart => exact ⟨0, by omega, rfl, h, Fr.refl h.clean⟩
  case round =>
    obtain ⟨k, hk, rfl, hm, hfr⟩ := hrel
    clear h
    by_cases hlt : k < 6
    · have HS : Hid (m.leaseTo (k + 1) = (m.leaseTo k).leaseAt k) := rfl
      generalize m.leaseTo k = M at *
      have hcall : Hid (∀ w', FMem o q w' b M sv rv → Calls Tryz.prog 89 #[.pointer (some ⟨b, 0, none⟩)] w' fun r w'' => r = .returned (fwV M.fw) ∧ Below w'.heap.size w' w'') := fun w' h' => firstWaiting_any h'
      cases hfw : M.fw with
      | none =>
        have HS2 : Hid (m.leaseTo (k + 1) = M) := by have := HS.out; simp only [PM.leaseAt, hfw] at this; exact this
        rw [hfw] at hcall
        go_wp2_with fail
        refine (hcall.out _ hm).mono ?_
        rintro e w1 ⟨rfl, hb⟩
        have hm1 := hm.below hb
        unfold fwV
        go_wp2
        exact ⟨⟨k + 1, by omega, by go_num, by rw [HS2.out]; exact hm1, hfr.below hb⟩, by simp [intOf]; omega⟩
      | some a =>
        have ha : a < M.req.length := by have := firstW_lt _ _ _ hfw; omega
        by_cases h2 : (M.slot k).st = 2
        · have HS2 : Hid (m.leaseTo (k + 1) = M.lease a k M.req[a]) := by
            have := HS.out; simp only [PM.leaseAt, hfw, h2, beq_self_eq_true, cond_true, List.getD, List.getElem?_eq_getElem ha, Option.getD_some] at this; exact this
          rw [hfw] at hcall
          go_wp2_with fail
          refine (hcall.out _ hm).mono ?_
          rintro e w1 ⟨rfl, hb⟩
          have hm1 := hm.below hb
          unfold fwV
          obtain ⟨c0, -⟩ := hm1.slotc hlt
          rw [h2] at c0
          clear h2 hfw
          go_wp2_with fail
          refine (lease_any hm1 a k ha hlt).mono ?_
          rintro e w2 ⟨rfl, hm2, fr2⟩
          go_wp2
          exact ⟨⟨k + 1, by omega, by go_num, by rw [HS2.out]; exact hm2, (hfr.below hb).trans fr2⟩, by simp [intOf]; omega⟩
        · have HS2 : Hid (m.leaseTo (k + 1) = M) := by
            have := HS.out
            have h3 : ((M.slot k).st == 2) = false := by simpa using h2
            simp only [PM.leaseAt, hfw, h3, cond_false] at this; exact this
          rw [hfw] at hcall
          go_wp2_with fail
          refine (hcall.out _ hm).mono ?_
          rintro e w1 ⟨rfl, hb⟩
          have hm1 := hm.below hb
          unfold fwV
          obtain ⟨c0, -⟩ := hm1.slotc hlt
          clear hfw
          go_wp2
          exact ⟨⟨k + 1, by omega, by go_num, by rw [HS2.out]; exact hm1, hfr.below hb⟩, by simp [intOf]; omega⟩
    · have : k = 6 := by omega
      subst this
      go_wp2
      exact bodyPost_end (v := .tuple #[]) (by simp [results, Tryz.results61, go_sem]) rfl ⟨rfl, hm, hfr⟩

set_option maxRecDepth 100000 in
set_option maxHeartbeats 1000000 in
theorem settle_any (h : FMem o q w b m sv rv) :
    Calls Tryz.prog 29 #[.pointer (some ⟨b, 0, none⟩)] w fun r w' => r = .returned (.tuple #[]) ∧ FMem o q w' b m.settle sv rv ∧ Fr q o w o w' := by
  have hd := h.dync
  unfold PM.settle
  cases hdyn : m.set.dyn
  · rw [hdyn] at hd
    simp only [cond_false]
    clear hdyn
    go_enter Tryz.func29, Tryz.ntmps29
    go_wp2_with fail
    refine (startMissing_any h).mono ?_
    rintro e w1 ⟨rfl, hm1, fr1⟩
    clear hd
    go_wp2_with fail
    refine (leaseWaiting_any hm1).mono ?_
    rintro e w2 ⟨rfl, hm2, fr2⟩
    go_wp2
    exact bodyPost_end (v := .tuple #[]) (by simp [results, Tryz.results29, go_sem]) rfl ⟨rfl, hm2, fr1.trans fr2⟩
  · rw [hdyn] at hd
    simp only [cond_true]
    clear hdyn
    go_enter Tryz.func29, Tryz.ntmps29
    go_wp2_with fail
    refine (leaseWaiting_any h).mono ?_
    rintro e w2 ⟨rfl, hm2, fr2⟩
    go_wp2
    exact bodyPost_end (v := .tuple #[]) (by simp [results, Tryz.results29, go_sem]) rfl ⟨rfl, hm2, fr2⟩

def PM.sent_ (m : PM) (n : Int) : ByteArray := cond (isC n) (strOfNums (m.con n.toNat).sent) ⟨#[]⟩

set_option maxRecDepth 100000 in
set_option maxHeartbeats 1000000 in
theorem sent_any (h : FMem o q w b m sv rv) (n : Int) :
    Calls Tryz.prog 33 #[.pointer (some ⟨b, 0, none⟩), .int .i64 n] w fun r w' => r = .returned (.string (m.sent_ n)) ∧ w' = w := by
  unfold PM.sent_
  rcases isC_cases n with h0 | ⟨h0, k, hk, rfl⟩
  · simp only [h0, cond_false]
    go_enter Tryz.func33, Tryz.ntmps33
    go_wp2_with fail
    refine (isConnection_any _ _).mono ?_
    rintro e w1 ⟨rfl, rfl⟩
    rw [h0]
    go_wp2
    go_ret
    exact ⟨rfl, rfl⟩
  · simp only [h0, cond_true, Int.toNat_natCast]
    have h1 := h.sentv hk
    have hcv := convert_own w 0 (sv k) _ _ (h.sent k hk).1
    go_enter Tryz.func33, Tryz.ntmps33
    go_wp2_with fail
    refine (isConnection_any _ _).mono ?_
    rintro e w1 ⟨rfl, rfl⟩
    rw [h0]
    go_wp2
    go_ret
    exact ⟨rfl, rfl⟩

end
end Go.Proofs.YtmjnengplfoiiaaGreat

namespace Go.Proofs.YtmjnengplfoiiaaGreat
open Go.RowKit

def inB (n a b : Int) : Bool := decide (a ≤ n) && decide (n ≤ b)

theorem within_in (n a b : Int) (w : World) :
    Calls Tryz.prog 59 #[.int .i64 n, .int .i64 a, .int .i64 b] w fun r w' => r = .returned (.bool (inB n a b)) ∧ w' = w := within_any n a b w

theorem cfg_ok (c : Cfg) : c.ok = (inB c.ch 1 6 && inB c.bl 0 20 && (inB c.mr 0 1000 && inB c.tmo 0 1000) && (!c.dyn || (inB c.mn 1 c.ch && inB c.mx c.mn c.ch))) := by
  rw [Bool.eq_iff_iff]
  simp [Cfg.ok, inB]
  intro _ _ _ _ _ _ _ _
  constructor
  · rintro (h9 | h9)
    · exact .inl h9
    · right; omega
  · rintro (h9 | h9)
    · exact .inl h9
    · right; omega

set_option maxRecDepth 100000 in
set_option maxHeartbeats 4000000 in
theorem mayBe_any (c : Cfg) (w : World) :
    Calls Tryz.prog 27 #[c.val] w fun r w' => r = .returned (.bool c.ok) ∧ Below w.heap.size w w' := by
  rw [cfg_ok]
  obtain ⟨ch, dyn, mn, mx, mr, tmo, bl⟩ := c
  simp only [Cfg.val]
  generalize h1 : inB ch 1 6 = b1
  generalize h2 : inB bl 0 20 = b2
  generalize h3 : inB mr 0 1000 = b3
  generalize h4 : inB tmo 0 1000 = b4
  generalize h5 : inB mn 1 ch = b5
  generalize h6 : inB mx mn ch = b6
  have c1 : Hid (∀ w, Calls Tryz.prog 59 #[.int .i64 ch, .int .i64 1, .int .i64 6] w fun r w' => r = .returned (.bool b1) ∧ w' = w) := fun w => h1 ▸ within_in _ _ _ w
  have c2 : Hid (∀ w, Calls Tryz.prog 59 #[.int .i64 bl, .int .i64 0, .int .i64 20] w fun r w' => r = .returned (.bool b2) ∧ w' = w) := fun w => h2 ▸ within_in _ _ _ w
  have c3 : Hid (∀ w, Calls Tryz.prog 59 #[.int .i64 mr, .int .i64 0, .int .i64 1000] w fun r w' => r = .returned (.bool b3) ∧ w' = w) := fun w => h3 ▸ within_in _ _ _ w
  have c4 : Hid (∀ w, Calls Tryz.prog 59 #[.int .i64 tmo, .int .i64 0, .int .i64 1000] w fun r w' => r = .returned (.bool b4) ∧ w' = w) := fun w => h4 ▸ within_in _ _ _ w
  have c5 : Hid (∀ w, Calls Tryz.prog 59 #[.int .i64 mn, .int .i64 1, .int .i64 ch] w fun r w' => r = .returned (.bool b5) ∧ w' = w) := fun w => h5 ▸ within_in _ _ _ w
  have c6 : Hid (∀ w, Calls Tryz.prog 59 #[.int .i64 mx, .int .i64 mn, .int .i64 ch] w fun r w' => r = .returned (.bool b6) ∧ w' = w) := fun w => h6 ▸ within_in _ _ _ w
  clear h1 h2 h3 h4 h5 h6
  cases b1
  · skip
    go_enter Tryz.func27, Tryz.ntmps27
    go_wp2_with fail
    refine (c1.out _).mono ?_
    rintro e w' ⟨rfl, rfl⟩
    go_wp2
    go_ret
    exact ⟨by simp, (Below.refl _ _).alloc (Nat.le_refl _) _⟩
  · skip
    cases b2
    · skip
      go_enter Tryz.func27, Tryz.ntmps27
      go_wp2_with fail
      refine (c1.out _).mono ?_
      rintro e w' ⟨rfl, rfl⟩
      go_wp2_with fail
      refine (c2.out _).mono ?_
      rintro e w' ⟨rfl, rfl⟩
      go_wp2
      go_ret
      exact ⟨by simp, (Below.refl _ _).alloc (Nat.le_refl _) _⟩
    · skip
      cases b3
      · skip
        go_enter Tryz.func27, Tryz.ntmps27
        go_wp2_with fail
        refine (c1.out _).mono ?_
        rintro e w' ⟨rfl, rfl⟩
        go_wp2_with fail
        refine (c2.out _).mono ?_
        rintro e w' ⟨rfl, rfl⟩
        go_wp2_with fail
        refine (c3.out _).mono ?_
        rintro e w' ⟨rfl, rfl⟩
        go_wp2
        go_ret
        exact ⟨by simp, (Below.refl _ _).alloc (Nat.le_refl _) _⟩
      · skip
        cases b4
        · skip
          go_enter Tryz.func27, Tryz.ntmps27
          go_wp2_with fail
          refine (c1.out _).mono ?_
          rintro e w' ⟨rfl, rfl⟩
          go_wp2_with fail
          refine (c2.out _).mono ?_
          rintro e w' ⟨rfl, rfl⟩
          go_wp2_with fail
          refine (c3.out _).mono ?_
          rintro e w' ⟨rfl, rfl⟩
          go_wp2_with fail
          refine (c4.out _).mono ?_
          rintro e w' ⟨rfl, rfl⟩
          go_wp2
          go_ret
          exact ⟨by simp, (Below.refl _ _).alloc (Nat.le_refl _) _⟩
        · skip
          cases dyn
          · skip
            go_enter Tryz.func27, Tryz.ntmps27
            go_wp2_with fail
            refine (c1.out _).mono ?_
            rintro e w' ⟨rfl, rfl⟩
            go_wp2_with fail
            refine (c2.out _).mono ?_
            rintro e w' ⟨rfl, rfl⟩
            go_wp2_with fail
            refine (c3.out _).mono ?_
            rintro e w' ⟨rfl, rfl⟩
            go_wp2_with fail
            refine (c4.out _).mono ?_
            rintro e w' ⟨rfl, rfl⟩
            go_wp2
            go_ret
            exact ⟨by simp, (Below.refl _ _).alloc (Nat.le_refl _) _⟩
          · skip
            cases b5
            · skip
              go_enter Tryz.func27, Tryz.ntmps27
              go_wp2_with fail
              refine (c1.out _).mono ?_
              rintro e w' ⟨rfl, rfl⟩
              go_wp2_with fail
              refine (c2.out _).mono ?_
              rintro e w' ⟨rfl, rfl⟩
              go_wp2_with fail
              refine (c3.out _).mono ?_
              rintro e w' ⟨rfl, rfl⟩
              go_wp2_with fail
              refine (c4.out _).mono ?_
              rintro e w' ⟨rfl, rfl⟩
              go_wp2_with fail
              refine (c5.out _).mono ?_
              rintro e w' ⟨rfl, rfl⟩
              go_wp2
              go_ret
              exact ⟨by simp, (Below.refl _ _).alloc (Nat.le_refl _) _⟩
            · skip
              cases b6
              · skip
                go_enter Tryz.func27, Tryz.ntmps27
                go_wp2_with fail
                refine (c1.out _).mono ?_
                rintro e w' ⟨rfl, rfl⟩
                go_wp2_with fail
                refine (c2.out _).mono ?_
                rintro e w' ⟨rfl, rfl⟩
                go_wp2_with fail
                refine (c3.out _).mono ?_
                rintro e w' ⟨rfl, rfl⟩
                go_wp2_with fail
                refine (c4.out _).mono ?_
                rintro e w' ⟨rfl, rfl⟩
                go_wp2_with fail
                refine (c5.out _).mono ?_
                rintro e w' ⟨rfl, rfl⟩
                go_wp2_with fail
                refine (c6.out _).mono ?_
                rintro e w' ⟨rfl, rfl⟩
                go_wp2
                go_ret
                exact ⟨by simp, (Below.refl _ _).alloc (Nat.le_refl _) _⟩
              · skip
                go_enter Tryz.func27, Tryz.ntmps27
                go_wp2_with fail
                refine (c1.out _).mono ?_
                rintro e w' ⟨rfl, rfl⟩
                go_wp2_with fail
                refine (c2.out _).mono ?_
                rintro e w' ⟨rfl, rfl⟩
                go_wp2_with fail
                refine (c3.out _).mono ?_
                rintro e w' ⟨rfl, rfl⟩
                go_wp2_with fail
                refine (c4.out _).mono ?_
                rintro e w' ⟨rfl, rfl⟩
                go_wp2_with fail
                refine (c5.out _).mono ?_
                rintro e w' ⟨rfl, rfl⟩
                go_wp2_with fail
                refine (c6.out _).mono ?_
                rintro e w' ⟨rfl, rfl⟩
                go_wp2
                go_ret
                exact ⟨by simp, (Below.refl _ _).alloc (Nat.le_refl _) _⟩
end Go.Proofs.YtmjnengplfoiiaaGreat

namespace Go.Proofs.YtmjnengplfoiiaaGreat
open Go.RowKit

def zeroSlot : PSlot := ⟨0, false, 0, 0, 0, 0, ⟨#[]⟩⟩
/-- New's foreman, its first k slots laid. -/
def rawTo (c : Cfg) (k : Nat) : PM := ⟨c, 0, fun _ => ⟨false, ⟨#[]⟩, []⟩, [], fun i => if i < k then newSlot 0 else zeroSlot⟩
def rawPM (c : Cfg) : PM := ⟨c, 0, fun _ => ⟨false, ⟨#[]⟩, []⟩, [], fun _ => newSlot 0⟩
def newPM (c : Cfg) : PM := (rawPM c).settle
def nilV : Nat → Value := fun _ => .slice none 0 0

theorem rawTo_succ (c : Cfg) (k : Nat) : { rawTo c k with slot := upd (rawTo c k).slot k (newSlot 0) } = rawTo c (k + 1) := by
  simp only [rawTo, PM.mk.injEq, true_and]
  funext i
  simp only [upd]
  by_cases h1 : i = k
  · subst h1; simp
  · simp only [h1, if_false]
    by_cases h2 : i < k
    · simp [h2, show i < k + 1 from by omega]
    · simp [h2, show ¬ i < k + 1 from by omega]

theorem FMem.raw {o : Nat → Tag} {q : Nat} {w : World} (hc : Clean o w) (c : Cfg) :
    FMem (upd o w.heap.size (q, 1)) q (w.alloc (.cells (fcells (rawTo c 0) nilV (.slice none 0 0)).toArray 63)) w.heap.size (rawTo c 0) nilV (.slice none 0 0) := by
  refine ⟨?_, upd_same _ _ _, Blk.made w _ _, fun k hk => Row.nil _ _ _ _ _, Row.nil _ _ _ _ _⟩
  intro g hg
  have h1 : w.heap.size + 1 ≤ g := by simpa using hg
  rw [upd_other _ _ (by omega)]
  exact hc g (by omega)

theorem Fr.made {o : Nat → Tag} {q : Nat} {w w' : World} (t : Tag) (hb : Below w.heap.size w w') (hc : Clean (upd o w.heap.size t) w') : Fr q o w (upd o w.heap.size t) w' :=
  ⟨hb.os, hb.tape, hb.output, hb.size, hc, fun g hg => upd_other _ _ (by omega), fun g hg _ => hb.block g hg⟩

section
variable {o : Nat → Tag} {q : Nat} {w : World} {b : Nat} {m : PM} {sv : Nat → Value} {rv : Value}

set_option maxRecDepth 100000 in
set_option maxHeartbeats 1000000 in
theorem new_no (c : Cfg) (w : World) (h : c.ok = false) :
    Calls Tryz.prog 11 #[c.val] w fun r w' => r = .returned (.tuple #[.pointer none, .int .i64 1]) ∧ Below w.heap.size w w' := by
  have hc : Hid (∀ w, Calls Tryz.prog 27 #[c.val] w fun r w' => r = .returned (.bool false) ∧ Below w.heap.size w w') := fun w => h ▸ mayBe_any c w
  unfold Cfg.val at *
  go_enter Tryz.func11, Tryz.ntmps11
  go_wp2_with fail
  refine (hc.out _).mono ?_
  rintro e w1 ⟨rfl, hb⟩
  go_wp2
  go_ret2
  exact ⟨rfl, ((Below.refl _ _).alloc (Nat.le_refl _) _).trans (hb.mono (by simp))⟩

set_option maxRecDepth 100000 in
set_option maxHeartbeats 2000000 in
theorem new_yes (c : Cfg) (w : World) (ho : Clean o w) (h : c.ok = true) :
    Calls Tryz.prog 11 #[c.val] w fun r w' => ∃ b o', r = .returned (.tuple #[.pointer (some ⟨b, 0, none⟩), .int .i64 0]) ∧ FMem o' q w' b (newPM c) nilV (.slice none 0 0) ∧ Fr q o w o' w' := by
  have hc : Hid (∀ w, Calls Tryz.prog 27 #[c.val] w fun r w' => r = .returned (.bool true) ∧ Below w.heap.size w w') := fun w => h ▸ mayBe_any c w
  have hset : c = ⟨c.ch, c.dyn, c.mn, c.mx, c.mr, c.tmo, c.bl⟩ := rfl
  unfold Cfg.val at *
  clear hset
  go_enter Tryz.func11, Tryz.ntmps11
  go_wp2_with fail
  have hb0 : Below w.heap.size w (w.alloc (.cells #[.int .i64 c.ch, .bool c.dyn, .int .i64 c.mn, .int .i64 c.mx, .int .i64 c.mr, .int .i64 c.tmo, .int .i64 c.bl] 23)) := (Below.refl _ _).alloc (Nat.le_refl _) _
  have hk0 := Blk.made w 23 c.cells
  have e0 : (w.alloc (.cells c.cells.toArray 23)).heap.size = w.heap.size + 1 := by simp
  refine (hc.out _).mono ?_
  rintro e w1 ⟨rfl, hb⟩
  have hk1 := hk0.below hb
  have d0 := hk1.cell (k := 0) (u := .int .i64 c.ch) rfl
  have d1 := hk1.cell (k := 1) (u := .bool c.dyn) rfl
  have d2 := hk1.cell (k := 2) (u := .int .i64 c.mn) rfl
  have d3 := hk1.cell (k := 3) (u := .int .i64 c.mx) rfl
  have d4 := hk1.cell (k := 4) (u := .int .i64 c.mr) rfl
  have d5 := hk1.cell (k := 5) (u := .int .i64 c.tmo) rfl
  have d6 := hk1.cell (k := 6) (u := .int .i64 c.bl) rfl
  have hb1 : Below w.heap.size w w1 := hb0.trans (hb.mono (by simp))
  have ho1 : Clean o w1 := ho.le hb1.size
  clear hk0 hk1 hb0 hb
  go_wp2
  have hm0 := FMem.raw (q := q) ho1 c
  have fr0 := (Fr.of_below (q := q) ho hb1).trans (Fr.made (q := q) (w' := w1.alloc (.cells (fcells (rawTo c 0) nilV (.slice none 0 0)).toArray 63)) (q, 1) ((Below.refl w1.heap.size w1).alloc (Nat.le_refl _) _) hm0.clean)
  generalize ho2 : upd o w1.heap.size (q, 1) = o1 at *
  clear ho2
  go_loopw [12] (fun i w' => ∃ k : Nat, k ≤ 6 ∧ i = .int .i64 k ∧ FMem o1 q w' w1.heap.size (rawTo c k) nilV (.slice none 0 0) ∧ Fr q o w o1 w') (fun i _ => 6 - (intOf i).toNat)
  case atStart => exact ⟨0, by omega, rfl, hm0, fr0⟩
  case round =>
    obtain ⟨k, hk, rfl, hm, hfr⟩ := hrel
    clear d0 d1 d2 d3 d4 d5 d6 hm0 fr0
    by_cases hlt : k < 6
    · have hmd := hm.below (Below.refl _ _).drew
      go_wp2
      go_region_held3 (fun w' => True) (trivial) (first | (go_at_call 28; refine (newPlace_any _ _).mono ?_; rintro e w2 ⟨rfl, hb2⟩; have hm2 := hmd.below hb2; obtain ⟨d0, d1, d2, d3, d4, d5, d6⟩ := hm2.slotc hlt; have fz := hm2.frozen))
      go_wp2
      have fr2 : Fr q o w o1 w2 := hfr.trans ((Fr.of_below hm.clean (Below.refl _ _).drew).trans (Fr.of_below hmd.clean hb2))
      have hm3 := hm2.putSlot hlt (newSlot 0)
      rw [rawTo_succ] at hm3
      refine ⟨⟨k + 1, by omega, by go_num, hm3, ?_⟩, by simp [intOf]; omega⟩
      exact fr2.trans (hm2.fr_put hm3 (by simp [World.setCell]) (by simp [World.setCell]) (by simp [World.setCell]) (by simp [World.setCell]) (by intro g hg; repeat rw [Below.heap_setCell _ _ _ g (by simpa using hg)]))
    · have : k = 6 := by omega
      subst this
      go_wp2_with fail
      have hm6 : FMem o1 q wr w1.heap.size (rawPM c) nilV (.slice none 0 0) := ⟨hm.clean, hm.tag, hm.blk, hm.sent, hm.reqs⟩
      refine (settle_any hm6).mono ?_
      rintro e w2 ⟨rfl, hm2, fr2⟩
      go_wp2
      go_ret2
      exact ⟨_, o1, rfl, hm2, hfr.trans fr2⟩

def keyCells (l : List (Int × Int)) : List Value := l.flatMap fun k => [.int .i64 k.1, .int .i64 k.2]
def PM.waits (m : PM) : List (Int × Int) := (m.req.filter fun r => r.stage == 1).map fun r => (r.conn, r.id)

theorem keyCells_append (a b : List (Int × Int)) : keyCells (a ++ b) = keyCells a ++ keyCells b := by simp [keyCells]
theorem keyCells_length (l : List (Int × Int)) : (keyCells l).length = l.length * 2 := by
  induction l with
  | nil => rfl
  | cons r l ih => simp [keyCells] at *; omega
theorem keyCells_one (l : List (Int × Int)) : ∀ u ∈ keyCells l, u.oneCell' = true := by
  intro u hu
  simp only [keyCells, List.mem_flatMap] at hu
  obtain ⟨r, _, hr⟩ := hu
  simp only [List.mem_cons, List.not_mem_nil, or_false] at hr
  rcases hr with rfl | rfl <;> rfl

theorem news_key (W : World) (g : Nat) (hg : W.heap.size = g) (x y : Int) (T : TypeId) : ∀ j u, (keyCells [(x, y)])[j]? = some u → (W.alloc (.cells #[.int .i64 x, .int .i64 y] T)).cell? ((⟨g, 0, none⟩ : Addr).add j) = some u := by
  subst hg
  exact World.news_of_block (heap_alloc_new W _)

theorem infoKey : (Tryz.prog.info? 88).map (fun i => (i.zero, i.size, i.bytes)) = some (some (.agg #[.int .i64 0, .int .i64 0]), 2, 16) := by kernel_rfl

set_option maxRecDepth 100000 in
set_option maxHeartbeats 2000000 in
theorem backlog_any (h : FMem o q w b m sv rv) (hmax : m.req.length ≤ 1000000000000) :
    Calls Tryz.prog 39 #[.pointer (some ⟨b, 0, none⟩)] w fun r w' => ∃ v, r = .returned v ∧ w'.ownsRow w.heap.size 88 2 v m.waits.length (keyCells m.waits) ∧ Below w.heap.size w w' := by
  obtain ⟨i0, hi, hz0, hz1, hz2⟩ := info_parts infoKey
  obtain ⟨ao, c, rfl, hn, hrow⟩ := h.list
  have h1 := h.reqv
  go_enter Tryz.func39, Tryz.ntmps39
  go_wp2
  go_loopw [3, 11] (fun v i w' => ∃ k : Nat, k ≤ m.req.length ∧ i = .int .i64 k ∧ w'.ownsRow w.heap.size 88 2 v (((m.req.take k).filter fun r => r.stage == 1).map fun r => (r.conn, r.id)).length (keyCells (((m.req.take k).filter fun r => r.stage == 1).map fun r => (r.conn, r.id))) ∧ Below w.heap.size w w') (fun _ i _ => m.req.length - (intOf i).toNat)
  case atStart => exact ⟨0, by omega, rfl, World.ownsRow_nil _ _ _ _, Below.refl _ _⟩
  case round =>
    obtain ⟨k, hk, rfl, hown, hb⟩ := hrel
    have hbase := hb.size
    by_cases hlt : k < m.req.length
    · obtain ⟨g, rfl, hg, -, -, c0, c1, c2, c3⟩ := hrow k hlt
      have hst := List.take_succ_eq_append_getElem hlt
      have HS : Hid _ := hst
      have hll : ((m.req.take k).filter fun r => r.stage == 1).length ≤ k := Nat.le_trans (List.length_filter_le _ _) (by rw [List.length_take]; omega)
      clear hst hrow
      rw [← hb.cell (by exact hg)] at c0 c1 c2 c3
      generalize hacc : (List.map (fun (r : Req) => (r.conn, r.id)) (List.filter (fun r => r.stage == 1) (List.take k m.req))) = acc at *
      have HA : Hid _ := hacc
      have hal : acc.length ≤ k := by rw [← hacc]; simpa using hll
      clear hacc hll
      generalize m.req[k] = r at *
      by_cases h1 : r.stage = 1
      · rw [h1] at c2
        go_wp2_with (at_builtin; refine wpList_append_own _ rfl _ _ 85 rfl w.heap.size 88 i0 (.agg #[.int .i64 0, .int .i64 0]) 2 16 Tryz.underlying85 hi hz0 hz1 hz2 rfl (by omega) u3 acc.length (keyCells acc) rfl ?hown ⟨wr.heap.size + 1, 0, none⟩ 1 1 (keyCells [(r.conn, r.id)]) rfl rfl ?hnews ?h1 ?h63 ?hbytes ?hbase ?_)
        case hown => exact (hown.alloc _).alloc _
        case hnews => exact news_key _ _ (by simp) _ _ _
        case h1 => exact keyCells_one _
        case h63 => unfold maxLen; omega
        case hbytes => omega
        case hbase => simp; omega
        intro v' w2 hown2 hgrow _
        go_wp2
        refine ⟨⟨k + 1, by omega, by go_num, ?_, ?_⟩, by simp [intOf]; omega⟩
        · rw [HS.out, List.filter_append, List.map_append, show List.filter (fun r => r.stage == 1) [r] = [r] from by simp [List.filter, h1], HA.out, keyCells_append]
          simpa using hown2
        · refine ((hb.alloc hbase _).alloc (by simp; omega) _).grown hgrow (by simp; omega) ?_
          intro x hx
          exact (hown.lt x hx).1
      · have h2 : (r.stage == 1) = false := by simpa using h1
        go_wp2
        refine ⟨⟨k + 1, by omega, by go_num, ?_, hb.alloc hbase _⟩, by simp [intOf]; omega⟩
        rw [HS.out, List.filter_append, List.map_append, show List.filter (fun r => r.stage == 1) [r] = [] from by simp [List.filter, h2], HA.out]
        simpa using hown.alloc _
    · have : k = m.req.length := by omega
      subst this
      go_wp2
      go_ret
      rw [List.take_length] at hown
      exact ⟨_, rfl, hown, hb⟩

end
end Go.Proofs.YtmjnengplfoiiaaGreat

namespace Go.Proofs.YtmjnengplfoiiaaGreat
open Go

section
variable {P : Program} {ops : Array Oper} {Q : Exit → Act → World → Prop} {md : Region.Mode} {S : World → Prop}

theorem at_of_drop {i : Nat} {oi : Oper} {tl : List Oper} (hi : ops.toList.drop i = oi :: tl) : ops[i]? = some oi := by
  rw [← Array.getElem?_toList]
  have h : (ops.toList.drop i)[0]? = some oi := by rw [hi]; rfl
  simpa using h

/-- 'wpAnyH_take' with the operation read off the written-out region by 'rfl'. -/
theorem take_at {i : Nat} {oi : Oper} {tl : List Oper} {v : Value} {fuel : Nat} {listed : Array Bool} {a : Act} {w : World} (hi : ops.toList.drop i = oi :: tl)
    (hs : Region.noSelect ops = true) (hf : Region.free md ops listed i = true) (hr : (Region.ready md ops listed).contains i = true)
    (hQ : ∀ c a w, Q (.panic c) (a.put oi.dst v) w → Q (.panic c) a w) (hw : Region.wanted oi (yielded ops a.tmps) = true)
    (hy : ∀ w, S w → (execOp a.eval oi).run P w = .ok (.value v) w) (hS : S w)
    (h : wpAnyH P md ops Q S fuel (listed.setIfInBounds i true) (a.put oi.dst v) w) : wpAnyH P md ops Q S (fuel + 1) listed a w :=
  wpAnyH_take (at_of_drop hi) hs hf hr hQ (Or.inl ⟨hw, hy⟩) hS h

/-- A guarded operation that is not wanted. -/
theorem skip_at {i : Nat} {oi : Oper} {tl : List Oper} {fuel : Nat} {listed : Array Bool} {a : Act} {w : World} (hi : ops.toList.drop i = oi :: tl)
    (hs : Region.noSelect ops = true) (hf : Region.free md ops listed i = true) (hr : (Region.ready md ops listed).contains i = true)
    (hQ : ∀ c a w, Q (.panic c) (a.put oi.dst undef) w → Q (.panic c) a w) (hw : Region.wanted oi (yielded ops a.tmps) = false) (hS : S w)
    (h : wpAnyH P md ops Q S fuel (listed.setIfInBounds i true) (a.put oi.dst undef) w) : wpAnyH P md ops Q S (fuel + 1) listed a w :=
  wpAnyH_take (at_of_drop hi) hs hf hr hQ (Or.inr ⟨hw, rfl⟩) hS h

/-- The one operation that may come up is carried out. -/
theorem only_at {i : Nat} {oi : Oper} {tl : List Oper} {fuel : Nat} {listed : Array Bool} {a : Act} {w : World} (hi : ops.toList.drop i = oi :: tl)
    (hr : Region.ready md ops listed = [i]) (hw : Region.wanted oi (yielded ops a.tmps) = true)
    (h : ∀ K' : Act → World → Prop, Shut (∀ a w, S w → wpAnyH P md ops Q S fuel (listed.setIfInBounds i true) a w → K' a w) → Oper.wp P oi a w K' Q) :
    wpAnyH P md ops Q S (fuel + 1) listed a w := by
  refine wpAnyH_ready hr (by simp) (AllReadyH.cons (at_of_drop hi) (fun K' hK => ?_) AllReadyH.nil)
  rw [if_pos hw]
  exact h K' (fun a w hS hW => hK.out a w hS (fun _ => hW))

end
end Go.Proofs.YtmjnengplfoiiaaGreat

namespace Go.Proofs.YtmjnengplfoiiaaGreat
open Go.RowKit

/-- A string's byte as a number. -/
def byt (t : ByteArray) (j : Nat) : Int := ((t.data.getD j 0).toNat : Int)

theorem byt_bd (t : ByteArray) (j : Nat) : 0 ≤ byt t j ∧ byt t j ≤ 255 := by
  have := (t.data.getD j 0).toNat_lt
  simp only [byt]; omega

theorem byt_get (t : ByteArray) (j : Nat) (h : j < t.size) : (t[j].toNat : Int) = byt t j := by
  have h2 : j < t.data.size := h
  simp only [byt, Array.getD, h2, dite_true]
  rfl

theorem run_byt (t : ByteArray) (j : Nat) (h : j < t.size) (w : World) : (Instr.index 9 (.string t) (.int .i64 j)).run Tryz.prog w = .ok (.int .u8 (byt t j)) w := by
  rw [← byt_get t j h]
  simp [go_sem, h]

set_option maxRecDepth 100000 in
set_option maxHeartbeats 1000000 in
theorem readHead_no (t : ByteArray) (w : World) (h : (t.size : Int) < 8) :
    Calls Tryz.prog 106 #[.string t] w fun r w' => r = .returned (.tuple #[.agg #[.int .i64 0, .int .i64 0, .int .i64 0, .int .i64 0, .int .i64 0, .int .i64 0], .bool false]) ∧ Below w.heap.size w w' := by
  go_enter Tryz.func106, Tryz.ntmps106
  go_wp2
  exact bodyPost_ret (v := .tuple #[.agg #[.int .i64 0, .int .i64 0, .int .i64 0, .int .i64 0, .int .i64 0, .int .i64 0], .bool false]) (by simp [results, Tryz.results106, go_sem]) rfl ⟨rfl, (Below.refl _ _).alloc (Nat.le_refl _) _⟩

set_option maxRecDepth 100000 in
set_option maxHeartbeats 1000000 in
theorem readHead_yes (t : ByteArray) (w : World) (h : 8 ≤ (t.size : Int)) (hmax : (t.size : Int) ≤ 1000000000000) :
    Calls Tryz.prog 106 #[.string t] w fun r w' => r = .returned (.tuple #[.agg #[.int .i64 (byt t 0), .int .i64 (byt t 1), .int .i64 (byt t 2 * 256 + byt t 3), .int .i64 (byt t 4 * 256 + byt t 5), .int .i64 (byt t 6), .int .i64 (byt t 7)], .bool true]) ∧ Below w.heap.size w w' := by
  have g0 : ∀ w, (Instr.index 9 (.string t) (.int .i64 0)).run Tryz.prog w = .ok (.int .u8 (byt t 0)) w := fun w => run_byt t 0 (by omega) w
  have g1 : ∀ w, (Instr.index 9 (.string t) (.int .i64 1)).run Tryz.prog w = .ok (.int .u8 (byt t 1)) w := fun w => run_byt t 1 (by omega) w
  have g2 : ∀ w, (Instr.index 9 (.string t) (.int .i64 2)).run Tryz.prog w = .ok (.int .u8 (byt t 2)) w := fun w => run_byt t 2 (by omega) w
  have g3 : ∀ w, (Instr.index 9 (.string t) (.int .i64 3)).run Tryz.prog w = .ok (.int .u8 (byt t 3)) w := fun w => run_byt t 3 (by omega) w
  have g4 : ∀ w, (Instr.index 9 (.string t) (.int .i64 4)).run Tryz.prog w = .ok (.int .u8 (byt t 4)) w := fun w => run_byt t 4 (by omega) w
  have g5 : ∀ w, (Instr.index 9 (.string t) (.int .i64 5)).run Tryz.prog w = .ok (.int .u8 (byt t 5)) w := fun w => run_byt t 5 (by omega) w
  have g6 : ∀ w, (Instr.index 9 (.string t) (.int .i64 6)).run Tryz.prog w = .ok (.int .u8 (byt t 6)) w := fun w => run_byt t 6 (by omega) w
  have g7 : ∀ w, (Instr.index 9 (.string t) (.int .i64 7)).run Tryz.prog w = .ok (.int .u8 (byt t 7)) w := fun w => run_byt t 7 (by omega) w
  have b0 := byt_bd t 0
  have b1 := byt_bd t 1
  have b2 := byt_bd t 2
  have b3 := byt_bd t 3
  have b4 := byt_bd t 4
  have b5 := byt_bd t 5
  have b6 := byt_bd t 6
  have b7 := byt_bd t 7
  go_enter Tryz.func106, Tryz.ntmps106
  go_wp2
  refine wp_region_noPanic ?_
  refine wp_region_held_drew (S := fun _ => True) (by kernel_rfl) trivial (fun hHeld => ?_)
  refine take_at (i := 0) (v := ?tv0) rfl (by kernel_rfl) (by kernel_rfl) (by kernel_rfl) (fun _ _ _ h => h) (by rfl) ?ty0 (by assumption) ?tr0
  case ty0 => (intro w hSw; go_simp; with_reducible rfl)
  simp only [Act.put, List.setIfInBounds_toArray, List.set_cons_zero, List.set_cons_succ]
  refine take_at (i := 1) (v := ?tv1) rfl (by kernel_rfl) (by kernel_rfl) (by kernel_rfl) (fun _ _ _ h => h) (by rfl) ?ty1 (by assumption) ?tr1
  case ty1 => (intro w hSw; go_simp; with_reducible rfl)
  simp only [Act.put, List.setIfInBounds_toArray, List.set_cons_zero, List.set_cons_succ]
  refine take_at (i := 2) (v := ?tv2) rfl (by kernel_rfl) (by kernel_rfl) (by kernel_rfl) (fun _ _ _ h => h) (by rfl) ?ty2 (by assumption) ?tr2
  case ty2 => (intro w hSw; go_simp; with_reducible rfl)
  simp only [Act.put, List.setIfInBounds_toArray, List.set_cons_zero, List.set_cons_succ]
  refine take_at (i := 3) (v := ?tv3) rfl (by kernel_rfl) (by kernel_rfl) (by kernel_rfl) (fun _ _ _ h => h) (by rfl) ?ty3 (by assumption) ?tr3
  case ty3 => (intro w hSw; go_simp; with_reducible rfl)
  simp only [Act.put, List.setIfInBounds_toArray, List.set_cons_zero, List.set_cons_succ]
  refine take_at (i := 4) (v := ?tv4) rfl (by kernel_rfl) (by kernel_rfl) (by kernel_rfl) (fun _ _ _ h => h) (by rfl) ?ty4 (by assumption) ?tr4
  case ty4 => (intro w hSw; go_simp; with_reducible rfl)
  simp only [Act.put, List.setIfInBounds_toArray, List.set_cons_zero, List.set_cons_succ]
  refine take_at (i := 5) (v := ?tv5) rfl (by kernel_rfl) (by kernel_rfl) (by kernel_rfl) (fun _ _ _ h => h) (by rfl) ?ty5 (by assumption) ?tr5
  case ty5 => (intro w hSw; go_simp; with_reducible rfl)
  simp only [Act.put, List.setIfInBounds_toArray, List.set_cons_zero, List.set_cons_succ]
  refine take_at (i := 6) (v := ?tv6) rfl (by kernel_rfl) (by kernel_rfl) (by kernel_rfl) (fun _ _ _ h => h) (by rfl) ?ty6 (by assumption) ?tr6
  case ty6 => (intro w hSw; go_simp; with_reducible rfl)
  simp only [Act.put, List.setIfInBounds_toArray, List.set_cons_zero, List.set_cons_succ]
  refine take_at (i := 7) (v := ?tv7) rfl (by kernel_rfl) (by kernel_rfl) (by kernel_rfl) (fun _ _ _ h => h) (by rfl) ?ty7 (by assumption) ?tr7
  case ty7 => (intro w hSw; go_simp; with_reducible rfl)
  simp only [Act.put, List.setIfInBounds_toArray, List.set_cons_zero, List.set_cons_succ]
  refine take_at (i := 8) (v := ?tv8) rfl (by kernel_rfl) (by kernel_rfl) (by kernel_rfl) (fun _ _ _ h => h) (by rfl) ?ty8 (by assumption) ?tr8
  case ty8 => (intro w hSw; go_simp; with_reducible rfl)
  simp only [Act.put, List.setIfInBounds_toArray, List.set_cons_zero, List.set_cons_succ]
  refine take_at (i := 9) (v := ?tv9) rfl (by kernel_rfl) (by kernel_rfl) (by kernel_rfl) (fun _ _ _ h => h) (by rfl) ?ty9 (by assumption) ?tr9
  case ty9 => (intro w hSw; go_simp; with_reducible rfl)
  simp only [Act.put, List.setIfInBounds_toArray, List.set_cons_zero, List.set_cons_succ]
  refine take_at (i := 10) (v := ?tv10) rfl (by kernel_rfl) (by kernel_rfl) (by kernel_rfl) (fun _ _ _ h => h) (by rfl) ?ty10 (by assumption) ?tr10
  case ty10 => (intro w hSw; go_simp; with_reducible rfl)
  simp only [Act.put, List.setIfInBounds_toArray, List.set_cons_zero, List.set_cons_succ]
  refine take_at (i := 11) (v := ?tv11) rfl (by kernel_rfl) (by kernel_rfl) (by kernel_rfl) (fun _ _ _ h => h) (by rfl) ?ty11 (by assumption) ?tr11
  case ty11 => (intro w hSw; go_simp; with_reducible rfl)
  simp only [Act.put, List.setIfInBounds_toArray, List.set_cons_zero, List.set_cons_succ]
  refine take_at (i := 12) (v := ?tv12) rfl (by kernel_rfl) (by kernel_rfl) (by kernel_rfl) (fun _ _ _ h => h) (by rfl) ?ty12 (by assumption) ?tr12
  case ty12 => (intro w hSw; go_simp; with_reducible rfl)
  simp only [Act.put, List.setIfInBounds_toArray, List.set_cons_zero, List.set_cons_succ]
  refine take_at (i := 13) (v := ?tv13) rfl (by kernel_rfl) (by kernel_rfl) (by kernel_rfl) (fun _ _ _ h => h) (by rfl) ?ty13 (by assumption) ?tr13
  case ty13 => (intro w hSw; go_simp; with_reducible rfl)
  simp only [Act.put, List.setIfInBounds_toArray, List.set_cons_zero, List.set_cons_succ]
  refine take_at (i := 14) (v := ?tv14) rfl (by kernel_rfl) (by kernel_rfl) (by kernel_rfl) (fun _ _ _ h => h) (by rfl) ?ty14 (by assumption) ?tr14
  case ty14 => (intro w hSw; go_simp; with_reducible rfl)
  simp only [Act.put, List.setIfInBounds_toArray, List.set_cons_zero, List.set_cons_succ]
  refine take_at (i := 15) (v := ?tv15) rfl (by kernel_rfl) (by kernel_rfl) (by kernel_rfl) (fun _ _ _ h => h) (by rfl) ?ty15 (by assumption) ?tr15
  case ty15 => (intro w hSw; go_simp; with_reducible rfl)
  simp only [Act.put, List.setIfInBounds_toArray, List.set_cons_zero, List.set_cons_succ]
  refine take_at (i := 16) (v := ?tv16) rfl (by kernel_rfl) (by kernel_rfl) (by kernel_rfl) (fun _ _ _ h => h) (by rfl) ?ty16 (by assumption) ?tr16
  case ty16 => (intro w hSw; go_simp; with_reducible rfl)
  simp only [Act.put, List.setIfInBounds_toArray, List.set_cons_zero, List.set_cons_succ]
  refine take_at (i := 17) (v := ?tv17) rfl (by kernel_rfl) (by kernel_rfl) (by kernel_rfl) (fun _ _ _ h => h) (by rfl) ?ty17 (by assumption) ?tr17
  case ty17 => (intro w hSw; go_simp; with_reducible rfl)
  simp only [Act.put, List.setIfInBounds_toArray, List.set_cons_zero, List.set_cons_succ]
  refine take_at (i := 18) (v := ?tv18) rfl (by kernel_rfl) (by kernel_rfl) (by kernel_rfl) (fun _ _ _ h => h) (by rfl) ?ty18 (by assumption) ?tr18
  case ty18 => (intro w hSw; go_simp; with_reducible rfl)
  simp only [Act.put, List.setIfInBounds_toArray, List.set_cons_zero, List.set_cons_succ]
  refine take_at (i := 19) (v := ?tv19) rfl (by kernel_rfl) (by kernel_rfl) (by kernel_rfl) (fun _ _ _ h => h) (by rfl) ?ty19 (by assumption) ?tr19
  case ty19 => (intro w hSw; go_simp; with_reducible rfl)
  simp only [Act.put, List.setIfInBounds_toArray, List.set_cons_zero, List.set_cons_succ]
  refine take_at (i := 20) (v := ?tv20) rfl (by kernel_rfl) (by kernel_rfl) (by kernel_rfl) (fun _ _ _ h => h) (by rfl) ?ty20 (by assumption) ?tr20
  case ty20 => (intro w hSw; go_simp; with_reducible rfl)
  simp only [Act.put, List.setIfInBounds_toArray, List.set_cons_zero, List.set_cons_succ]
  refine take_at (i := 21) (v := ?tv21) rfl (by kernel_rfl) (by kernel_rfl) (by kernel_rfl) (fun _ _ _ h => h) (by rfl) ?ty21 (by assumption) ?tr21
  case ty21 => (intro w hSw; go_simp; with_reducible rfl)
  simp only [Act.put, List.setIfInBounds_toArray, List.set_cons_zero, List.set_cons_succ]
  refine take_at (i := 22) (v := ?tv22) rfl (by kernel_rfl) (by kernel_rfl) (by kernel_rfl) (fun _ _ _ h => h) (by rfl) ?ty22 (by assumption) ?tr22
  case ty22 => (intro w hSw; go_simp; with_reducible rfl)
  simp only [Act.put, List.setIfInBounds_toArray, List.set_cons_zero, List.set_cons_succ]
  refine take_at (i := 23) (v := ?tv23) rfl (by kernel_rfl) (by kernel_rfl) (by kernel_rfl) (fun _ _ _ h => h) (by rfl) ?ty23 (by assumption) ?tr23
  case ty23 => (intro w hSw; go_simp; with_reducible rfl)
  simp only [Act.put, List.setIfInBounds_toArray, List.set_cons_zero, List.set_cons_succ]
  refine take_at (i := 24) (v := ?tv24) rfl (by kernel_rfl) (by kernel_rfl) (by kernel_rfl) (fun _ _ _ h => h) (by rfl) ?ty24 (by assumption) ?tr24
  case ty24 => (intro w hSw; go_simp; with_reducible rfl)
  simp only [Act.put, List.setIfInBounds_toArray, List.set_cons_zero, List.set_cons_succ]
  refine take_at (i := 25) (v := ?tv25) rfl (by kernel_rfl) (by kernel_rfl) (by kernel_rfl) (fun _ _ _ h => h) (by rfl) ?ty25 (by assumption) ?tr25
  case ty25 => (intro w hSw; go_simp; with_reducible rfl)
  simp only [Act.put, List.setIfInBounds_toArray, List.set_cons_zero, List.set_cons_succ]
  refine take_at (i := 26) (v := ?tv26) rfl (by kernel_rfl) (by kernel_rfl) (by kernel_rfl) (fun _ _ _ h => h) (by rfl) ?ty26 (by assumption) ?tr26
  case ty26 => (intro w hSw; go_simp; with_reducible rfl)
  simp only [Act.put, List.setIfInBounds_toArray, List.set_cons_zero, List.set_cons_succ]
  refine take_at (i := 27) (v := ?tv27) rfl (by kernel_rfl) (by kernel_rfl) (by kernel_rfl) (fun _ _ _ h => h) (by rfl) ?ty27 (by assumption) ?tr27
  case ty27 => (intro w hSw; go_simp; with_reducible rfl)
  simp only [Act.put, List.setIfInBounds_toArray, List.set_cons_zero, List.set_cons_succ]
  refine take_at (i := 28) (v := ?tv28) rfl (by kernel_rfl) (by kernel_rfl) (by kernel_rfl) (fun _ _ _ h => h) (by rfl) ?ty28 (by assumption) ?tr28
  case ty28 => (intro w hSw; go_simp; with_reducible rfl)
  simp only [Act.put, List.setIfInBounds_toArray, List.set_cons_zero, List.set_cons_succ]
  refine only_at (i := 29) rfl (by kernel_rfl) (by rfl) (fun K hK => ?_)
  go_simp
  refine hK.out _ _ trivial ?_
  clear hK K
  refine only_at (i := 30) rfl (by kernel_rfl) (by rfl) (fun K hK => ?_)
  go_simp
  refine hK.out _ _ trivial ?_
  clear hK K
  refine wpAnyH_done (by kernel_rfl) ?_ _
  refine NoPanic.normal ?_
  go_wp2
  exact bodyPost_ret (v := .tuple #[.agg #[.int .i64 (byt t 0), .int .i64 (byt t 1), .int .i64 (byt t 2 * 256 + byt t 3), .int .i64 (byt t 4 * 256 + byt t 5), .int .i64 (byt t 6), .int .i64 (byt t 7)], .bool true]) (by simp [results, Tryz.results106, go_sem]) rfl ⟨rfl, ((((Below.refl _ _).alloc (Nat.le_refl _) _)).drew.alloc (by simp) _)⟩
end Go.Proofs.YtmjnengplfoiiaaGreat

namespace Go.Proofs.YtmjnengplfoiiaaGreat
open Go.RowKit

theorem bcell {W w1 : World} (hb : Below W.heap.size W w1) : (∀ b o, b < W.heap.size → w1.cell? ⟨b, o, none⟩ = W.cell? ⟨b, o, none⟩) ∧ (∀ b o, b < W.heap.size → w1.frozen? ⟨b, o, none⟩ = W.frozen? ⟨b, o, none⟩) :=
  ⟨fun b o h => hb.cell (p := ⟨b, o, none⟩) h, fun b o h => hb.frozen (p := ⟨b, o, none⟩) h⟩

/-- A cell behind one new block and what a callee did above it. -/
theorem keep_cell {W w2 : World} {o : Obj} (hb : Below (W.alloc o).heap.size (W.alloc o) w2) {a : Addr} {v : Value} (h : W.cell? a = some v) : w2.cell? a = some v := by
  have hlt := World.block_lt_of_cell? W a h
  rw [hb.cell (by simp; omega), World.cell?_alloc_lt _ _ _ hlt, h]
theorem keep_new {W w2 : World} {cs : Array Value} {T : TypeId} (hb : Below (W.alloc (.cells cs T)).heap.size (W.alloc (.cells cs T)) w2) (j : Nat) : w2.cell? ⟨W.heap.size, j, none⟩ = cs[j]? ∧ w2.frozen? ⟨W.heap.size, j, none⟩ = false := by
  refine ⟨?_, ?_⟩
  · rw [hb.cell (by simp)]; exact World.cell?_alloc_at _ _ _ _ rfl
  · rw [hb.frozen (by simp)]; exact World.frozen?_alloc_at _ _ _ _ rfl
theorem keep_frozen {W w2 : World} {o : Obj} (hb : Below (W.alloc o).heap.size (W.alloc o) w2) {a : Addr} (hlt : a.block < W.heap.size) (h : W.frozen? a = false) : w2.frozen? a = false := by
  rw [hb.frozen (by simp; omega), World.frozen?_alloc_old _ _ _ (by omega), h]

def badB (m k i n p z : Int) : Bool := m != 1 || decide (7 < p) || z != 0 || !allowedB k i n

set_option maxRecDepth 100000 in
set_option maxHeartbeats 400000 in
theorem bad_any (m k i n p z : Int) (w : World) :
    Calls Tryz.prog 115 #[.agg #[.int .i64 m, .int .i64 k, .int .i64 i, .int .i64 n, .int .i64 p, .int .i64 z]] w fun r w' => r = .returned (.bool (badB m k i n p z)) ∧ Below w.heap.size w w' := by
  unfold badB
  cases h1 : m != 1 <;> by_cases h2 : 7 < p <;> cases h3 : z != 0
  all_goals
    go_enter Tryz.func115, Tryz.ntmps115
    go_wp2_with (go_at_call 117; refine (allowed_any _ _ _ _).mono ?_; rintro e w' ⟨rfl, rfl⟩)
    go_ret
    exact ⟨by simp [*] <;> omega, (Below.refl _ _).alloc (Nat.le_refl _) _⟩

/-- What the first eight bytes say. -/
def hKind (t : ByteArray) : Int := byt t 1
def hId (t : ByteArray) : Int := byt t 2 * 256 + byt t 3
def hLen (t : ByteArray) : Int := byt t 4 * 256 + byt t 5
def hPad (t : ByteArray) : Int := byt t 6
def badT (t : ByteArray) : Bool := badB (byt t 0) (hKind t) (hId t) (hLen t) (hPad t) (byt t 7)

theorem hd_bd (t : ByteArray) : 0 ≤ hKind t ∧ hKind t ≤ 255 ∧ 0 ≤ hId t ∧ hId t ≤ 65535 ∧ 0 ≤ hLen t ∧ hLen t ≤ 65535 ∧ 0 ≤ hPad t ∧ hPad t ≤ 255 := by
  have b1 := byt_bd t 1
  have b2 := byt_bd t 2
  have b3 := byt_bd t 3
  have b4 := byt_bd t 4
  have b5 := byt_bd t 5
  have b6 := byt_bd t 6
  simp only [hKind, hId, hLen, hPad]; omega

theorem readHead_yes' (t : ByteArray) (w : World) (h : 8 ≤ (t.size : Int)) (hmax : (t.size : Int) ≤ 1000000000000) :
    Calls Tryz.prog 106 #[.string t] w fun r w' => r = .returned (.tuple #[.agg #[.int .i64 (byt t 0), .int .i64 (hKind t), .int .i64 (hId t), .int .i64 (hLen t), .int .i64 (hPad t), .int .i64 (byt t 7)], .bool true]) ∧ Below w.heap.size w w' :=
  readHead_yes t w h hmax

def nilRec : Value := .agg #[.int .i64 0, .int .i64 0, .string ⟨#[]⟩]

set_option maxRecDepth 100000 in
set_option maxHeartbeats 1000000 in
theorem first_no (t : ByteArray) (w : World) (h : (t.size : Int) < 8) :
    Calls Tryz.prog 108 #[.string t] w fun r w' => r = .returned (.tuple #[nilRec, .int .i64 0, .int .i64 0]) ∧ Below w.heap.size w w' := by
  go_enter Tryz.func108, Tryz.ntmps108
  go_wp2_with fail
  refine (readHead_no t _ h).mono ?_
  rintro e w1 ⟨rfl, hb⟩
  obtain ⟨c0, f0⟩ := keep_new hb 0
  obtain ⟨c1, f1⟩ := keep_new hb 1
  obtain ⟨c2, f2⟩ := keep_new hb 2
  simp only [List.getElem?_toArray, List.getElem?_cons_zero, List.getElem?_cons_succ] at c0 c1 c2
  have hz : w.heap.size < w1.heap.size := by have := hb.size; simp at this; omega
  have h0 : Below w.heap.size w w1 := ((Below.refl _ _).alloc (Nat.le_refl _) _).trans (hb.mono (by simp))
  clear hb
  go_wp2
  refine bodyPost_ret (v := .tuple #[nilRec, .int .i64 0, .int .i64 0]) (by simp [results, Tryz.results108, go_sem, c0, c1, c2, hz, nilRec]) rfl ⟨rfl, ?_⟩
  repeat (first | exact h0 | refine Below.setCell ?_ (by simp) _ | refine Below.alloc ?_ (by simp; omega) _ | refine Below.drew ?_)

set_option maxRecDepth 100000 in
set_option maxHeartbeats 1000000 in
theorem first_bad (t : ByteArray) (w : World) (h : 8 ≤ (t.size : Int)) (hmax : (t.size : Int) ≤ 1000000000000) (hbad : badT t = true) :
    Calls Tryz.prog 108 #[.string t] w fun r w' => r = .returned (.tuple #[nilRec, .int .i64 0, .int .i64 7]) ∧ Below w.heap.size w w' := by
  go_enter Tryz.func108, Tryz.ntmps108
  go_wp2_with fail
  refine (readHead_yes' t _ h hmax).mono ?_
  rintro e w1 ⟨rfl, hb⟩
  obtain ⟨c0, f0⟩ := keep_new hb 0
  obtain ⟨c1, f1⟩ := keep_new hb 1
  obtain ⟨c2, f2⟩ := keep_new hb 2
  simp only [List.getElem?_toArray, List.getElem?_cons_zero, List.getElem?_cons_succ] at c0 c1 c2
  have hz : w.heap.size < w1.heap.size := by have := hb.size; simp at this; omega
  have h0 : Below w.heap.size w w1 := ((Below.refl _ _).alloc (Nat.le_refl _) _).trans (hb.mono (by simp))
  clear hb
  go_wp2_with fail
  refine (bad_any _ _ _ _ _ _ _).mono ?_
  rintro e w2 ⟨rfl, hb2⟩
  rw [show badB (byt t 0) (hKind t) (hId t) (hLen t) (hPad t) (byt t 7) = true from hbad]
  have d0 := keep_cell hb2 c0
  have d1 := keep_cell hb2 c1
  have d2 := keep_cell hb2 c2
  have k0 := keep_frozen hb2 hz f0
  have k1 := keep_frozen hb2 hz f1
  have k2 := keep_frozen hb2 hz f2
  obtain ⟨e1, -⟩ := keep_new hb2 1
  obtain ⟨e2, -⟩ := keep_new hb2 2
  obtain ⟨e3, -⟩ := keep_new hb2 3
  obtain ⟨e4, -⟩ := keep_new hb2 4
  simp only [List.getElem?_toArray, List.getElem?_cons_zero, List.getElem?_cons_succ] at e1 e2 e3 e4
  have hz2 : w1.heap.size < w2.heap.size := by have := hb2.size; simp at this; omega
  have hz3 : w.heap.size < w2.heap.size := by omega
  have h1 : Below w.heap.size w w2 := (h0.alloc (by omega) _).trans (hb2.mono (by simp; omega))
  clear hb2 c0 c1 c2 f0 f1 f2
  go_wp2
  refine bodyPost_ret (v := .tuple #[nilRec, .int .i64 0, .int .i64 7]) (by simp [results, Tryz.results108, go_sem, d0, d1, d2, nilRec]) rfl ⟨rfl, ?_⟩
  repeat (first | exact h1 | refine Below.setCell ?_ (by simp) _ | refine Below.alloc ?_ (by simp; omega) _ | refine Below.drew ?_)

set_option maxRecDepth 100000 in
set_option maxHeartbeats 1000000 in
theorem first_part (t : ByteArray) (w : World) (h : 8 ≤ (t.size : Int)) (hmax : (t.size : Int) ≤ 1000000000000) (hbad : badT t = false) (hsz : (t.size : Int) < 8 + hLen t + hPad t) :
    Calls Tryz.prog 108 #[.string t] w fun r w' => r = .returned (.tuple #[nilRec, .int .i64 0, .int .i64 0]) ∧ Below w.heap.size w w' := by
  have hd := hd_bd t
  go_enter Tryz.func108, Tryz.ntmps108
  go_wp2_with fail
  refine (readHead_yes' t _ h hmax).mono ?_
  rintro e w1 ⟨rfl, hb⟩
  obtain ⟨c0, f0⟩ := keep_new hb 0
  obtain ⟨c1, f1⟩ := keep_new hb 1
  obtain ⟨c2, f2⟩ := keep_new hb 2
  simp only [List.getElem?_toArray, List.getElem?_cons_zero, List.getElem?_cons_succ] at c0 c1 c2
  have hz : w.heap.size < w1.heap.size := by have := hb.size; simp at this; omega
  have h0 : Below w.heap.size w w1 := ((Below.refl _ _).alloc (Nat.le_refl _) _).trans (hb.mono (by simp))
  clear hb
  go_wp2_with fail
  refine (bad_any _ _ _ _ _ _ _).mono ?_
  rintro e w2 ⟨rfl, hb2⟩
  rw [show badB (byt t 0) (hKind t) (hId t) (hLen t) (hPad t) (byt t 7) = false from hbad]
  have d0 := keep_cell hb2 c0
  have d1 := keep_cell hb2 c1
  have d2 := keep_cell hb2 c2
  have k0 := keep_frozen hb2 hz f0
  have k1 := keep_frozen hb2 hz f1
  have k2 := keep_frozen hb2 hz f2
  obtain ⟨e1, -⟩ := keep_new hb2 1
  obtain ⟨e2, -⟩ := keep_new hb2 2
  obtain ⟨e3, -⟩ := keep_new hb2 3
  obtain ⟨e4, -⟩ := keep_new hb2 4
  simp only [List.getElem?_toArray, List.getElem?_cons_zero, List.getElem?_cons_succ] at e1 e2 e3 e4
  have hz2 : w1.heap.size < w2.heap.size := by have := hb2.size; simp at this; omega
  have hz3 : w.heap.size < w2.heap.size := by omega
  have h1 : Below w.heap.size w w2 := (h0.alloc (by omega) _).trans (hb2.mono (by simp; omega))
  clear hb2 c0 c1 c2 f0 f1 f2
  go_wp2
  refine bodyPost_ret (v := .tuple #[nilRec, .int .i64 0, .int .i64 0]) (by simp [results, Tryz.results108, go_sem, d0, d1, d2, nilRec]) rfl ⟨rfl, ?_⟩
  repeat (first | exact h1 | refine Below.setCell ?_ (by simp) _ | refine Below.alloc ?_ (by simp; omega) _ | refine Below.drew ?_)

set_option maxRecDepth 100000 in
set_option maxHeartbeats 1000000 in
theorem first_yes (t : ByteArray) (w : World) (h : 8 ≤ (t.size : Int)) (hmax : (t.size : Int) ≤ 1000000000000) (hbad : badT t = false) (hsz : 8 + hLen t + hPad t ≤ (t.size : Int)) :
    Calls Tryz.prog 108 #[.string t] w fun r w' => r = .returned (.tuple #[.agg #[.int .i64 (hKind t), .int .i64 (hId t), .string (t.extract 8 (8 + hLen t).toNat)], .int .i64 (8 + hLen t + hPad t), .int .i64 0]) ∧ Below w.heap.size w w' := by
  have hd := hd_bd t
  go_enter Tryz.func108, Tryz.ntmps108
  go_wp2_with fail
  refine (readHead_yes' t _ h hmax).mono ?_
  rintro e w1 ⟨rfl, hb⟩
  obtain ⟨c0, f0⟩ := keep_new hb 0
  obtain ⟨c1, f1⟩ := keep_new hb 1
  obtain ⟨c2, f2⟩ := keep_new hb 2
  simp only [List.getElem?_toArray, List.getElem?_cons_zero, List.getElem?_cons_succ] at c0 c1 c2
  have hz : w.heap.size < w1.heap.size := by have := hb.size; simp at this; omega
  have h0 : Below w.heap.size w w1 := ((Below.refl _ _).alloc (Nat.le_refl _) _).trans (hb.mono (by simp))
  clear hb
  go_wp2_with fail
  refine (bad_any _ _ _ _ _ _ _).mono ?_
  rintro e w2 ⟨rfl, hb2⟩
  rw [show badB (byt t 0) (hKind t) (hId t) (hLen t) (hPad t) (byt t 7) = false from hbad]
  have d0 := keep_cell hb2 c0
  have d1 := keep_cell hb2 c1
  have d2 := keep_cell hb2 c2
  have k0 := keep_frozen hb2 hz f0
  have k1 := keep_frozen hb2 hz f1
  have k2 := keep_frozen hb2 hz f2
  obtain ⟨e1, -⟩ := keep_new hb2 1
  obtain ⟨e2, -⟩ := keep_new hb2 2
  obtain ⟨e3, -⟩ := keep_new hb2 3
  obtain ⟨e4, -⟩ := keep_new hb2 4
  simp only [List.getElem?_toArray, List.getElem?_cons_zero, List.getElem?_cons_succ] at e1 e2 e3 e4
  have hz2 : w1.heap.size < w2.heap.size := by have := hb2.size; simp at this; omega
  have hz3 : w.heap.size < w2.heap.size := by omega
  have h1 : Below w.heap.size w w2 := (h0.alloc (by omega) _).trans (hb2.mono (by simp; omega))
  clear hb2 c0 c1 c2 f0 f1 f2
  have hne : w.heap.size ≠ w1.heap.size := by omega
  have hs : ∀ wx : World, (Instr.slice 9 (.string t) (some (.int .i64 8)) (some (.int .i64 (8 + hLen t))) none).run Tryz.prog wx = .ok (.string (t.extract 8 (8 + hLen t).toNat)) wx := fun wx =>
    run_slice_string (P := Tryz.prog) wx 9 t .i64 .i64 8 (8 + hLen t) Tryz.underlying9 (by omega) (by omega) (by omega)
  go_wp2
  go_region_held3 (fun w' => w'.cell? ⟨w1.heap.size, 1, none⟩ = some (.int .i64 (hKind t)) ∧ w'.cell? ⟨w1.heap.size, 2, none⟩ = some (.int .i64 (hId t))) (go_keep) (fail)
  go_wp2
  refine bodyPost_ret (v := .tuple #[.agg #[.int .i64 (hKind t), .int .i64 (hId t), .string (t.extract 8 (8 + hLen t).toNat)], .int .i64 (8 + hLen t + hPad t), .int .i64 0]) (by simp [results, Tryz.results108, go_sem, d0, d1, d2]) rfl ⟨rfl, ?_⟩
  repeat (first | exact h1 | refine Below.setCell ?_ (by simp) _ | refine Below.alloc ?_ (by simp; omega) _ | refine Below.drew ?_)
end Go.Proofs.YtmjnengplfoiiaaGreat

namespace Go.Proofs.YtmjnengplfoiiaaGreat
open Go.RowKit

/-- A record as the proofs have it: kind, Id, Content. -/
abbrev Rec := Int × Int × ByteArray

def rcells (r : Rec) : List Value := [.int .i64 r.1, .int .i64 r.2.1, .string r.2.2]
def rowOf (l : List Rec) : List Value := l.flatMap rcells

/-- What stands at the beginning of some bytes: 0: nothing whole; 1: a bad head; 2: a record. -/
def code (t : ByteArray) : Nat :=
  if (t.size : Int) < 8 then 0 else if badT t then 1 else if (t.size : Int) < 8 + hLen t + hPad t then 0 else 2
def recT (t : ByteArray) : Rec := (hKind t, hId t, t.extract 8 (8 + hLen t).toNat)
def sizeT (t : ByteArray) : Nat := (8 + hLen t + hPad t).toNat

/-- What is left of s from a place on. -/
def left (s : ByteArray) (i : Nat) : ByteArray := s.extract i s.size

theorem left_size (s : ByteArray) (i : Nat) : (left s i).size = s.size - i := by
  simp [left, ByteArray.size_extract]

def dec : Nat → ByteArray → Nat → List Rec × Nat × Int
  | 0, _, i => ([], i, 0)
  | f + 1, s, i =>
    if code (left s i) = 0 then ([], i, 0)
    else if code (left s i) = 1 then ([], i, 7)
    else (recT (left s i) :: (dec f s (i + sizeT (left s i))).1, (dec f s (i + sizeT (left s i))).2)

def decL (s : ByteArray) : List Rec := (dec (s.size + 1) s 0).1
def decN (s : ByteArray) : Nat := (dec (s.size + 1) s 0).2.1
def decE (s : ByteArray) : Int := (dec (s.size + 1) s 0).2.2

theorem code_two {t : ByteArray} (h : code t = 2) : 8 ≤ sizeT t ∧ sizeT t ≤ t.size ∧ badT t = false ∧ 8 + hLen t + hPad t ≤ (t.size : Int) ∧ 8 ≤ (t.size : Int) := by
  have hd := hd_bd t
  unfold code at h
  split at h
  · cases h
  · split at h
    · cases h
    · split at h
      · cases h
      · rename_i h1 h2 h3
        refine ⟨by unfold sizeT; omega, by unfold sizeT; omega, by simpa using h2, by omega, by omega⟩

theorem code_cases (t : ByteArray) : code t = 0 ∨ code t = 1 ∨ code t = 2 := by
  unfold code
  split
  · simp
  · split
    · simp
    · split <;> simp

theorem dec_zero {f : Nat} {s : ByteArray} {i : Nat} (h : code (left s i) = 0) : dec f s i = ([], i, 0) := by
  cases f with
  | zero => rfl
  | succ f => simp [dec, h]
theorem dec_one {f : Nat} {s : ByteArray} {i : Nat} (h : code (left s i) = 1) : dec (f + 1) s i = ([], i, 7) := by
  simp [dec, h]
theorem dec_two {f : Nat} {s : ByteArray} {i : Nat} (h : code (left s i) = 2) : dec (f + 1) s i = (recT (left s i) :: (dec f s (i + sizeT (left s i))).1, (dec f s (i + sizeT (left s i))).2) := by
  simp [dec, h]

theorem code_short {s : ByteArray} {i : Nat} (h : s.size - i < 8) : code (left s i) = 0 := by
  unfold code
  rw [if_pos]
  rw [left_size]; omega

/-- 'first' in one row. -/
def firstV (t : ByteArray) : Value :=
  if code t = 2 then .tuple #[.agg #[.int .i64 (recT t).1, .int .i64 (recT t).2.1, .string (recT t).2.2], .int .i64 (sizeT t), .int .i64 0]
  else if code t = 1 then .tuple #[nilRec, .int .i64 0, .int .i64 7] else .tuple #[nilRec, .int .i64 0, .int .i64 0]

theorem first_any (t : ByteArray) (w : World) (hmax : (t.size : Int) ≤ 1000000000000) :
    Calls Tryz.prog 108 #[.string t] w fun r w' => r = .returned (firstV t) ∧ Below w.heap.size w w' := by
  have hd := hd_bd t
  by_cases h1 : (t.size : Int) < 8
  · have : code t = 0 := by simp [code, h1]
    simpa [firstV, this] using first_no t w h1
  · cases h2 : badT t
    · by_cases h3 : (t.size : Int) < 8 + hLen t + hPad t
      · have : code t = 0 := by simp [code, h1, h2, h3]
        simpa [firstV, this] using first_part t w (by omega) hmax h2 h3
      · have : code t = 2 := by simp [code, h1, h2, h3]
        have e : ((sizeT t : Nat) : Int) = 8 + hLen t + hPad t := by unfold sizeT; omega
        simpa [firstV, this, e, recT] using first_yes t w (by omega) hmax h2 (by omega)
    · have : code t = 1 := by simp [code, h1, h2]
      simpa [firstV, this] using first_bad t w (by omega) hmax h2

theorem rowOf_length (l : List Rec) : (rowOf l).length = l.length * 3 := by
  induction l with
  | nil => rfl
  | cons r l ih => simp only [rowOf, List.flatMap_cons, List.length_append, List.length_cons] at ih ⊢; rw [ih]; simp [rcells]; omega

theorem rowOf_append (a b : List Rec) : rowOf (a ++ b) = rowOf a ++ rowOf b := by simp [rowOf]

theorem rowOf_one (r : Rec) : rowOf [r] = rcells r := by simp [rowOf]

theorem rowOf_get (l : List Rec) (k : Nat) (hk : k < l.length) : (rowOf l)[3 * k]? = some (.int .i64 l[k].1) ∧ (rowOf l)[3 * k + 1]? = some (.int .i64 l[k].2.1) ∧ (rowOf l)[3 * k + 2]? = some (.string l[k].2.2) := by
  induction l generalizing k with
  | nil => simp at hk
  | cons r l ih =>
    cases k with
    | zero => simp [rowOf, rcells]
    | succ k =>
      have := ih k (by simpa using hk)
      have e : rowOf (r :: l) = .int .i64 r.1 :: .int .i64 r.2.1 :: .string r.2.2 :: rowOf l := by simp [rowOf, rcells]
      rw [e, show 3 * (k + 1) = 3 * k + 1 + 1 + 1 from by omega, show 3 * k + 1 + 1 + 1 + 1 = 3 * k + 1 + 1 + 1 + 1 from rfl]
      simpa using this

end Go.Proofs.YtmjnengplfoiiaaGreat
