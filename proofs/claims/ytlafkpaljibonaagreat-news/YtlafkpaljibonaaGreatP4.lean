import Derived.Test.YtlafkpaljibonaaGreatP3
import Derived.Test.YtlafkpaljibonaaGreatB
namespace Go.Proofs.YtlafkpaljibonaaGreat
open Go.RowKit

theorem firstW_lt (l : List Req) (k a : Nat) (h : firstW l k = some a) : k ≤ a ∧ a < k + l.length := by
  induction l generalizing k with
  | nil => simp [firstW] at h
  | cons r l ih =>
    simp only [firstW] at h
    cases hr : (r.stage == 1)
    · rw [hr] at h
      have := ih (k + 1) h
      simp; omega
    · rw [hr] at h
      simp only [cond_true, Option.some.injEq] at h
      simp; omega

def noReq : Req := ⟨0, 0, 0, ⟨#[]⟩⟩

/-- One slot is looked at: if it is Idle, the first that waits is leased to it. -/
def PM.leaseAt (m : PM) (k : Nat) : PM :=
  match m.fw with
  | some a => cond ((m.slot k).st == 2) (m.lease a k (m.req.getD a noReq)) m
  | none => m

def PM.leaseTo (m : PM) : Nat → PM
  | 0 => m
  | k + 1 => (m.leaseTo k).leaseAt k

def PM.leaseWaiting (m : PM) : PM := m.leaseTo 6
def PM.settle (m : PM) : PM := (cond m.set.dyn m m.startMissing).leaseWaiting

section
variable {o : Nat → Tag} {q : Nat} {w : World} {b : Nat} {m : PM} {sv : Nat → Value} {rv : Value}

set_option maxRecDepth 100000 in
set_option maxHeartbeats 2000000 in
theorem leaseWaiting_any (h : FMem o q w b m sv rv) :
    Calls Tryz.prog 66 #[.pointer (some ⟨b, 0, none⟩)] w fun r w' => r = .returned (.tuple #[]) ∧ FMem o q w' b m.leaseWaiting sv rv ∧ Fr q o w o w' := by
  unfold PM.leaseWaiting
  go_enter Tryz.func66, Tryz.ntmps66
  go_wp2
  go_loopw [5] (fun i w' => ∃ k : Nat, k ≤ 6 ∧ i = .int .i64 k ∧ FMem o q w' b (m.leaseTo k) sv rv ∧ Fr q o w o w') (fun i _ => 6 - (intOf i).toNat)
  case atStart => exact ⟨0, by omega, rfl, h, Fr.refl h.clean⟩
  case round =>
    obtain ⟨k, hk, rfl, hm, hfr⟩ := hrel
    clear h
    by_cases hlt : k < 6
    · have HS : Hid (m.leaseTo (k + 1) = (m.leaseTo k).leaseAt k) := rfl
      generalize m.leaseTo k = M at *
      have hcall : Hid (∀ w', FMem o q w' b M sv rv → Calls Tryz.prog 98 #[.pointer (some ⟨b, 0, none⟩)] w' fun r w'' => r = .returned (fwV M.fw) ∧ Below w'.heap.size w' w'') := fun w' h' => firstWaiting_any h'
      cases hfw : M.fw with
      | none =>
        have HS2 : Hid (m.leaseTo (k + 1) = M) := by have := HS.out; simp only [PM.leaseAt, hfw] at this; exact this
        rw [hfw] at hcall
        go_wp2_with fail
        refine (hcall.out _ hm).mono ?_
        rintro e w1 ⟨rfl, hb⟩
        have hm1 := hm.below hb
        unfold fwV
        go_wp2
        exact ⟨⟨k + 1, by omega, by go_num, by rw [HS2.out]; exact hm1, hfr.below hb⟩, by simp [intOf]; omega⟩
      | some a =>
        have ha : a < M.req.length := by have := firstW_lt _ _ _ hfw; omega
        by_cases h2 : (M.slot k).st = 2
        · have HS2 : Hid (m.leaseTo (k + 1) = M.lease a k M.req[a]) := by
            have := HS.out; simp only [PM.leaseAt, hfw, h2, beq_self_eq_true, cond_true, List.getD, List.getElem?_eq_getElem ha, Option.getD_some] at this; exact this
          rw [hfw] at hcall
          go_wp2_with fail
          refine (hcall.out _ hm).mono ?_
          rintro e w1 ⟨rfl, hb⟩
          have hm1 := hm.below hb
          unfold fwV
          obtain ⟨c0, -⟩ := hm1.slotc hlt
          rw [h2] at c0
          clear h2 hfw
          go_wp2_with fail
          refine (lease_any hm1 a k ha hlt).mono ?_
          rintro e w2 ⟨rfl, hm2, fr2⟩
          go_wp2
          exact ⟨⟨k + 1, by omega, by go_num, by rw [HS2.out]; exact hm2, (hfr.below hb).trans fr2⟩, by simp [intOf]; omega⟩
        · have HS2 : Hid (m.leaseTo (k + 1) = M) := by
            have := HS.out
            have h3 : ((M.slot k).st == 2) = false := by simpa using h2
            simp only [PM.leaseAt, hfw, h3, cond_false] at this; exact this
          rw [hfw] at hcall
          go_wp2_with fail
          refine (hcall.out _ hm).mono ?_
          rintro e w1 ⟨rfl, hb⟩
          have hm1 := hm.below hb
          unfold fwV
          obtain ⟨c0, -⟩ := hm1.slotc hlt
          clear hfw
          go_wp2
          exact ⟨⟨k + 1, by omega, by go_num, by rw [HS2.out]; exact hm1, hfr.below hb⟩, by simp [intOf]; omega⟩
    · have : k = 6 := by omega
      subst this
      go_wp2
      exact bodyPost_end (v := .tuple #[]) (by simp [results, Tryz.results66, go_sem]) rfl ⟨rfl, hm, hfr⟩

set_option maxRecDepth 100000 in
set_option maxHeartbeats 1000000 in
theorem settle_any (h : FMem o q w b m sv rv) :
    Calls Tryz.prog 31 #[.pointer (some ⟨b, 0, none⟩)] w fun r w' => r = .returned (.tuple #[]) ∧ FMem o q w' b m.settle sv rv ∧ Fr q o w o w' := by
  have hd := h.dync
  unfold PM.settle
  cases hdyn : m.set.dyn
  · rw [hdyn] at hd
    simp only [cond_false]
    clear hdyn
    go_enter Tryz.func31, Tryz.ntmps31
    go_wp2_with fail
    refine (startMissing_any h).mono ?_
    rintro e w1 ⟨rfl, hm1, fr1⟩
    clear hd
    go_wp2_with fail
    refine (leaseWaiting_any hm1).mono ?_
    rintro e w2 ⟨rfl, hm2, fr2⟩
    go_wp2
    exact bodyPost_end (v := .tuple #[]) (by simp [results, Tryz.results31, go_sem]) rfl ⟨rfl, hm2, fr1.trans fr2⟩
  · rw [hdyn] at hd
    simp only [cond_true]
    clear hdyn
    go_enter Tryz.func31, Tryz.ntmps31
    go_wp2_with fail
    refine (leaseWaiting_any h).mono ?_
    rintro e w2 ⟨rfl, hm2, fr2⟩
    go_wp2
    exact bodyPost_end (v := .tuple #[]) (by simp [results, Tryz.results31, go_sem]) rfl ⟨rfl, hm2, fr2⟩

def PM.sent_ (m : PM) (n : Int) : ByteArray := cond (isC n) (strOfNums (m.con n.toNat).sent) ⟨#[]⟩

set_option maxRecDepth 100000 in
set_option maxHeartbeats 1000000 in
theorem sent_any (h : FMem o q w b m sv rv) (n : Int) :
    Calls Tryz.prog 35 #[.pointer (some ⟨b, 0, none⟩), .int .i64 n] w fun r w' => r = .returned (.string (m.sent_ n)) ∧ w' = w := by
  unfold PM.sent_
  rcases isC_cases n with h0 | ⟨h0, k, hk, rfl⟩
  · simp only [h0, cond_false]
    go_enter Tryz.func35, Tryz.ntmps35
    go_wp2_with fail
    refine (isConnection_any _ _).mono ?_
    rintro e w1 ⟨rfl, rfl⟩
    rw [h0]
    go_wp2
    go_ret
    exact ⟨rfl, rfl⟩
  · simp only [h0, cond_true, Int.toNat_natCast]
    have h1 := h.sentv hk
    have hcv := convert_own w 0 (sv k) _ _ (h.sent k hk).1
    go_enter Tryz.func35, Tryz.ntmps35
    go_wp2_with fail
    refine (isConnection_any _ _).mono ?_
    rintro e w1 ⟨rfl, rfl⟩
    rw [h0]
    go_wp2
    go_ret
    exact ⟨rfl, rfl⟩

end
end Go.Proofs.YtlafkpaljibonaaGreat
