import Derived.Test.YtlafkpaljibonaaGreatL5
namespace Go.Proofs.YtlafkpaljibonaaGreat
open Go.RowKit

theorem cfg_ch1 {c : Cfg} (h : c.ok = true) : 1 ≤ c.ch := by
  simp only [Cfg.ok, Bool.and_eq_true, decide_eq_true_eq] at h
  exact h.1.1.1.1

theorem leaseTo_none (m : PM) (h : m.fw = none) (k : Nat) : m.leaseTo k = m := by
  induction k with
  | zero => rfl
  | succ k ih => simp only [PM.leaseTo, ih, PM.leaseAt, h]

theorem raw_used (c : Cfg) : (rawPM c).usedTo 6 = 0 := by simp [PM.usedTo, rawPM, newSlot]

theorem startTo_raw (c : Cfg) (h0 : 0 ≤ c.ch) (k : Nat) : startTo (rawPM c) 0 k = ({ rawPM c with slot := fun i => if i < k ∧ (i : Int) < c.ch then newSlot 1 else newSlot 0 }, if (k : Int) < c.ch then (k : Int) else c.ch) := by
  induction k with
  | zero =>
    simp only [startTo]
    congr 1
    simp; omega
  | succ k ih =>
    simp only [startTo, ih]
    have hset : (rawPM c).set = c := rfl
    rw [hset]
    have hs : ((if k < k ∧ (k : Int) < c.ch then newSlot 1 else newSlot 0).st == 0) = true := by simp [newSlot]
    rw [hs, Bool.and_true]
    by_cases hk : (k : Int) < c.ch
    · simp only [hk, if_true, decide_true, cond_true]
      refine Prod.ext ?_ ?_
      · simp only
        congr 1
        funext i
        simp only [upd]
        by_cases e : i = k
        · subst e; simp [hk]
        · simp only [e, if_false]
          by_cases e2 : i < k
          · simp [e2, show i < k + 1 from by omega]
          · simp [e2, show ¬ i < k + 1 from by omega]
      · simp only; split <;> omega
    · simp only [hk, if_false, Int.lt_irrefl, decide_false, cond_false]
      refine Prod.ext ?_ ?_
      · simp only
        congr 1
        funext i
        by_cases e : i = k
        · subst e; simp [hk]
        · by_cases e2 : i < k
          · simp [e2, show i < k + 1 from by omega]
          · simp [e2, show ¬ i < k + 1 from by omega]
      · simp only; split <;> omega

theorem newPM_eq (c : Cfg) (h : c.ok = true) : newPM c = { rawPM c with slot := fun i => if c.dyn = false ∧ i < 6 ∧ (i : Int) < c.ch then newSlot 1 else newSlot 0 } := by
  have h0 : 0 ≤ c.ch := by have := cfg_ch1 h; omega
  unfold newPM PM.settle PM.leaseWaiting
  rw [leaseTo_none]
  · cases hd : (rawPM c).set.dyn
    · have hd2 : c.dyn = false := hd
      simp only [cond_false, PM.startMissing, raw_used, startTo_raw c h0, hd2, true_and]
    · have hd2 : c.dyn = true := hd
      simp only [cond_true, hd2]
      simp [rawPM]
  · cases hd : (rawPM c).set.dyn
    · simp only [cond_false, PM.startMissing, raw_used, startTo_raw c h0]; rfl
    · rfl

/-- The document's foreman with j slots started. -/
def stRM (c : Cfg) (j : Nat) : RM := { rawRM c with slot := fun i => if i < j then startSlot else ⟨0, 0, 0, false, 0⟩ }

theorem stRM_first (c : Cfg) (j : Nat) (hj : j < 6) : (stRM c j).first 0 = some j := by
  rcases j with _ | _ | _ | _ | _ | _ | j <;> first | omega | simp [RM.first, RM.fst, stRM, startSlot]

theorem stRM_cnt (c : Cfg) (j : Nat) (hj : j ≤ 6) : (stRM c j).cnt 0 = 6 - j := by
  rcases j with _ | _ | _ | _ | _ | _ | _ | j <;> first | omega | simp [RM.cnt, RM.cntTo, stRM, startSlot]

theorem stRM_starts (c : Cfg) (j : Nat) (hj : j < 6) : (stRM c j).starts = stRM c (j + 1) := by
  unfold RM.starts
  rw [stRM_first c j hj]
  simp only [stRM, RM.mk.injEq, true_and, and_true]
  funext i
  simp only [upd]
  by_cases e : i = j
  · subst e; simp
  · by_cases e2 : i < j
    · simp [e, e2, show i < j + 1 from by omega]
    · simp [e, e2, show ¬ i < j + 1 from by omega]

theorem stRM_go (c : Cfg) (hd : c.dyn = false) (hc : c.ch ≤ 6) (n j : Nat) (hj : (j : Int) ≤ c.ch) (hn : c.ch ≤ (j : Int) + n) : (stRM c j).startN n = stRM c c.ch.toNat := by
  induction n generalizing j with
  | zero =>
    have : c.ch.toNat = j := by omega
    rw [this]; rfl
  | succ n ih =>
    rw [show (stRM c j).startN (n + 1) = cond (!(stRM c j).set.dyn && decide (6 - (stRM c j).cnt 0 < (stRM c j).set.ch)) ((stRM c j).starts.startN n) (stRM c j) from rfl]
    rw [show (stRM c j).set = c from rfl, hd, stRM_cnt c j (by omega)]
    by_cases e : (j : Int) < c.ch
    · rw [decide_eq_true (by omega)]
      simp only [Bool.not_false, Bool.and_self, cond_true]
      rw [stRM_starts c j (by omega)]
      exact ih (j + 1) (by omega) (by omega)
    · rw [decide_eq_false (by omega)]
      simp only [Bool.and_false, cond_false]
      rw [show c.ch.toNat = j from by omega]

theorem startRM_eq (c : Cfg) (h : c.ok = true) : startRM c = stRM c (cond c.dyn 0 c.ch.toNat) := by
  have h0 : 0 ≤ c.ch := by have := cfg_ch1 h; omega
  have hc := cfg_ch h
  have e0 : rawRM c = stRM c 0 := by simp [stRM, rawRM]
  unfold startRM RM.startAll
  rw [e0]
  cases hd : c.dyn
  · rw [cond_false]; exact stRM_go c hd hc 6 0 (by omega) (by omega)
  · rw [cond_true, show (stRM c 0).startN 6 = cond (!(stRM c 0).set.dyn && decide (6 - (stRM c 0).cnt 0 < (stRM c 0).set.ch)) ((stRM c 0).starts.startN 5) (stRM c 0) from rfl]
    rw [show (stRM c 0).set.dyn = c.dyn from rfl, hd]
    rfl
end Go.Proofs.YtlafkpaljibonaaGreat
