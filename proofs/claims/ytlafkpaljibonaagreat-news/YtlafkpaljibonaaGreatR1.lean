import Derived.Test.YtlafkpaljibonaaGreatR0
namespace Go.Proofs.YtlafkpaljibonaaGreat
open Go.RowKit

set_option maxRecDepth 100000 in
set_option maxHeartbeats 400000 in
theorem rIsConn_any (n : Int) (w : World) :
    Calls Tryz.prog 72 #[.int .i64 n] w fun r w' => r = .returned (.bool (isC n)) ∧ w' = w := by
  unfold isC
  go_enter Tryz.func72, Tryz.ntmps72
  go_wp2
  all_goals (go_ret; exact ⟨by simp [*] <;> omega, rfl⟩)

set_option maxRecDepth 100000 in
set_option maxHeartbeats 400000 in
theorem rIsSlot_any (n : Int) (w : World) :
    Calls Tryz.prog 75 #[.int .i64 n] w fun r w' => r = .returned (.bool (isS n)) ∧ w' = w := by
  unfold isS
  go_enter Tryz.func75, Tryz.ntmps75
  go_wp2
  all_goals (go_ret; exact ⟨by simp [*] <;> omega, rfl⟩)

set_option maxRecDepth 100000 in
set_option maxHeartbeats 2000000 in
theorem right_any (c : Cfg) (w : World) :
    Calls Tryz.prog 14 #[c.val] w fun r w' => r = .returned (.bool c.ok) ∧ Below w.heap.size w w' := by
  obtain ⟨ch, dyn, mn, mx, mr, tmo, bl⟩ := c
  simp only [Cfg.val, Cfg.ok]
  cases dyn
  all_goals
    go_enter Tryz.func14, Tryz.ntmps14
    go_wp2
    all_goals
      go_ret
      refine ⟨?_, (Below.refl _ _).alloc (Nat.le_refl _) _⟩
      congr 2
      first | (simp; omega) | (rw [Bool.eq_iff_iff]; simp; omega) | simp [*]

section
variable {o : Nat → Tag} {q : Nat} {w : World} {b : Nat} {m : RM} {lv : Nat → Value} {kv qv : Value}

/-- How many of the first k slots are in a state. -/
def RM.cntTo (m : RM) (st : Int) : Nat → Int
  | 0 => 0
  | k + 1 => m.cntTo st k + (cond ((m.slot k).st == st) 1 0)
def RM.cnt (m : RM) (st : Int) : Int := m.cntTo st 6

theorem RM.cntTo_bd (m : RM) (st : Int) (k : Nat) : 0 ≤ m.cntTo st k ∧ m.cntTo st k ≤ k := by
  induction k with
  | zero => simp [RM.cntTo]
  | succ k ih => simp only [RM.cntTo]; cases ((m.slot k).st == st) <;> simp <;> omega

set_option maxRecDepth 100000 in
set_option maxHeartbeats 1000000 in
theorem count_any (h : RMem o q w b m lv kv qv) (st : Int) :
    Calls Tryz.prog 67 #[.pointer (some ⟨b, 0, none⟩), .int .i64 st] w fun r w' => r = .returned (.int .i64 (m.cnt st)) ∧ w' = w := by
  unfold RM.cnt
  go_enter Tryz.func67, Tryz.ntmps67
  go_wp2
  go_loopw [5, 6] (fun c i w' => ∃ k : Nat, k ≤ 6 ∧ c = .int .i64 (m.cntTo st k) ∧ i = .int .i64 k ∧ w' = w) (fun _ i _ => 6 - (intOf i).toNat)
  case atStart => exact ⟨0, by omega, rfl, rfl, rfl⟩
  case round =>
    obtain ⟨k, hk, rfl, rfl, rfl⟩ := hrel
    by_cases hlt : k < 6
    · have hbd := m.cntTo_bd st k
      obtain ⟨c0, -⟩ := h.slotc hlt
      have HS : Hid (m.cntTo st (k + 1) = m.cntTo st k + (cond ((m.slot k).st == st) 1 0)) := rfl
      by_cases hs : (m.slot k).st = st
      · rw [hs] at c0
        go_wp2
        refine ⟨⟨k + 1, by omega, ?_, by go_num, by first | rfl | trivial⟩, by simp [intOf]; omega⟩
        rw [HS.out, hs]; simp
      · have hs2 : ((m.slot k).st == st) = false := by simpa using hs
        go_wp2
        refine ⟨⟨k + 1, by omega, ?_, by go_num, by first | rfl | trivial⟩, by simp [intOf]; omega⟩
        rw [HS.out, hs2]; simp
    · have : k = 6 := by omega
      subst this
      go_wp2
      go_ret
      exact ⟨rfl, rfl⟩

/-- The first slot in a state, from the place k on, of n. -/
def RM.fst (m : RM) (st : Int) (k : Nat) : Nat → Option Nat
  | 0 => none
  | n + 1 => cond ((m.slot k).st == st) (some k) (m.fst st (k + 1) n)
def RM.first (m : RM) (st : Int) : Option Nat := m.fst st 0 6
def plcI : Option Nat → Int
  | none => -1
  | some k => k

theorem RM.fst_some (m : RM) (st : Int) (k n a : Nat) (h : m.fst st k n = some a) : k ≤ a ∧ a < k + n ∧ (m.slot a).st = st := by
  induction n generalizing k with
  | zero => simp [RM.fst] at h
  | succ n ih =>
    simp only [RM.fst] at h
    cases hr : ((m.slot k).st == st)
    · rw [hr] at h
      have := ih (k + 1) h
      omega
    · rw [hr] at h
      simp only [cond_true, Option.some.injEq] at h
      subst h
      exact ⟨Nat.le_refl _, by omega, by simpa using hr⟩

set_option maxRecDepth 100000 in
set_option maxHeartbeats 1000000 in
theorem first_slot (h : RMem o q w b m lv kv qv) (st : Int) :
    Calls Tryz.prog 70 #[.pointer (some ⟨b, 0, none⟩), .int .i64 st] w fun r w' => r = .returned (.int .i64 (plcI (m.first st))) ∧ w' = w := by
  unfold RM.first
  go_enter Tryz.func70, Tryz.ntmps70
  go_wp2
  go_loopw [5] (fun i w' => ∃ k : Nat, k ≤ 6 ∧ m.fst st 0 6 = m.fst st k (6 - k) ∧ i = .int .i64 k ∧ w' = w) (fun i _ => 6 - (intOf i).toNat)
  case atStart => exact ⟨0, by omega, rfl, rfl, rfl⟩
  case round =>
    obtain ⟨k, hk, hf, rfl, rfl⟩ := hrel
    have HF : Hid _ := hf
    clear hf
    by_cases hlt : k < 6
    · obtain ⟨c0, -⟩ := h.slotc hlt
      have HS : Hid (m.fst st k (6 - k) = cond ((m.slot k).st == st) (some k) (m.fst st (k + 1) (6 - (k + 1)))) := by
        rw [show 6 - k = (6 - (k + 1)) + 1 from by omega]; rfl
      by_cases hs : (m.slot k).st = st
      · rw [hs] at c0
        go_wp2
        go_ret
        refine ⟨?_, rfl⟩
        rw [HF.out, HS.out, hs]; simp [plcI]
      · have hs2 : ((m.slot k).st == st) = false := by simpa using hs
        go_wp2
        refine ⟨⟨k + 1, by omega, ?_, by go_num, by first | rfl | trivial⟩, by simp [intOf]; omega⟩
        rw [HF.out, HS.out, hs2]; simp
    · have : k = 6 := by omega
      subst this
      go_wp2
      go_ret
      refine ⟨?_, rfl⟩
      rw [HF.out]; simp [plcI, RM.fst]

def startSlot : RSlot := ⟨1, 0, 0, false, 0⟩
def RM.starts (m : RM) : RM :=
  match m.first 0 with
  | some k => { m with slot := upd m.slot k startSlot }
  | none => m

set_option maxRecDepth 100000 in
set_option maxHeartbeats 1000000 in
theorem starts_any (h : RMem o q w b m lv kv qv) :
    Calls Tryz.prog 68 #[.pointer (some ⟨b, 0, none⟩)] w fun r w' => r = .returned (.tuple #[]) ∧ RMem o q w' b m.starts lv kv qv ∧ Fr q o w o w' := by
  have hc : Hid (∀ w', RMem o q w' b m lv kv qv → Calls Tryz.prog 70 #[.pointer (some ⟨b, 0, none⟩), .int .i64 0] w' fun r w'' => r = .returned (.int .i64 (plcI (m.first 0))) ∧ w'' = w') := fun w' h' => first_slot h' 0
  unfold RM.starts
  cases hf : m.first 0 with
  | none =>
    rw [hf] at hc
    go_enter Tryz.func68, Tryz.ntmps68
    go_wp2_with fail
    refine (hc.out _ h).mono ?_
    rintro e w1 ⟨rfl, rfl⟩
    unfold plcI
    go_wp2
    exact bodyPost_end (v := .tuple #[]) (by simp [results, Tryz.results68, go_sem]) rfl ⟨rfl, h, Fr.refl h.clean⟩
  | some k =>
    rw [hf] at hc
    obtain ⟨-, hk, -⟩ := m.fst_some 0 0 6 k hf
    have hk : k < 6 := by omega
    obtain ⟨c0, c1, c2, c3, c4⟩ := h.slotc hk
    have fz := h.frozen
    clear hf
    go_enter Tryz.func68, Tryz.ntmps68
    go_wp2_with fail
    refine (hc.out _ h).mono ?_
    rintro e w1 ⟨rfl, rfl⟩
    unfold plcI
    go_wp2
    exact bodyPost_end (v := .tuple #[]) (by simp [results, Tryz.results68, go_sem]) rfl ⟨rfl, h.putSlot hk startSlot⟩

set_option maxRecDepth 100000 in
set_option maxHeartbeats 400000 in
theorem rTime_any (h : RMem o q w b m lv kv qv) :
    Calls Tryz.prog 21 #[.pointer (some ⟨b, 0, none⟩)] w fun r w' => r = .returned (.int .i64 m.time) ∧ w' = w := by
  have h1 := h.timec
  go_enter Tryz.func21, Tryz.ntmps21
  go_wp2
  go_ret
  exact ⟨rfl, rfl⟩

def RM.open_ (m : RM) (n : Int) : Bool := isC n && (m.line n.toNat).op

set_option maxRecDepth 100000 in
set_option maxHeartbeats 400000 in
theorem rOpen_any (h : RMem o q w b m lv kv qv) (n : Int) :
    Calls Tryz.prog 34 #[.pointer (some ⟨b, 0, none⟩), .int .i64 n] w fun r w' => r = .returned (.bool (m.open_ n)) ∧ w' = w := by
  rcases isC_cases n with h0 | ⟨h0, k, hk, rfl⟩
  · unfold RM.open_
    go_enter Tryz.func34, Tryz.ntmps34
    go_wp2_with fail
    refine (rIsConn_any _ _).mono ?_
    rintro e w1 ⟨rfl, rfl⟩
    rw [h0]
    go_wp2
    go_ret
    exact ⟨by simp [h0], rfl⟩
  · obtain ⟨h1, -⟩ := h.linec hk
    unfold RM.open_
    rw [h0]
    simp only [Bool.true_and, Int.toNat_natCast]
    go_enter Tryz.func34, Tryz.ntmps34
    go_wp2_with fail
    refine (rIsConn_any _ _).mono ?_
    rintro e w1 ⟨rfl, rfl⟩
    rw [h0]
    go_wp2
    go_ret
    exact ⟨rfl, rfl⟩

def RM.stE (m : RM) (n st : Int) : Int := cond (isS n) (cond ((m.slot n.toNat).st == st) 0 6) 5

set_option maxRecDepth 100000 in
set_option maxHeartbeats 400000 in
theorem rState_any (h : RMem o q w b m lv kv qv) (n st : Int) :
    Calls Tryz.prog 77 #[.pointer (some ⟨b, 0, none⟩), .int .i64 n, .int .i64 st] w fun r w' => r = .returned (.int .i64 (m.stE n st)) ∧ w' = w := by
  unfold RM.stE
  rcases isS_cases n with h0 | ⟨h0, k, hk, rfl⟩
  · simp only [h0, cond_false]
    go_enter Tryz.func77, Tryz.ntmps77
    go_wp2_with fail
    refine (rIsSlot_any _ _).mono ?_
    rintro e w1 ⟨rfl, rfl⟩
    rw [h0]
    go_wp2
    go_ret
    exact ⟨rfl, rfl⟩
  · obtain ⟨c0, -⟩ := h.slotc hk
    simp only [h0, cond_true, Int.toNat_natCast]
    generalize (m.slot k).st = s at *
    by_cases hs : s = st
    · subst hs
      simp only [beq_self_eq_true, cond_true]
      go_enter Tryz.func77, Tryz.ntmps77
      go_wp2_with fail
      refine (rIsSlot_any _ _).mono ?_
      rintro e w1 ⟨rfl, rfl⟩
      rw [h0]
      go_wp2
      go_ret
      exact ⟨rfl, rfl⟩
    · have hs2 : (s == st) = false := by simpa using hs
      simp only [hs2, cond_false]
      go_enter Tryz.func77, Tryz.ntmps77
      go_wp2_with fail
      refine (rIsSlot_any _ _).mono ?_
      rintro e w1 ⟨rfl, rfl⟩
      rw [h0]
      go_wp2
      go_ret
      exact ⟨rfl, rfl⟩
end
end Go.Proofs.YtlafkpaljibonaaGreat
