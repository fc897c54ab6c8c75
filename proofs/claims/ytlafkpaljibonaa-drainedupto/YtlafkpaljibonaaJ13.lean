import Derived.Test.YtlafkpaljibonaaJ11
import Derived.Test.YtlafkpaljibonaaJ7
import Derived.Test.YtlafkpaljibonaaJ12
namespace Go.Proofs.Ytlafkpaljibonaa
open Go.RowKit

section
variable {m m' : PM} {a : Bool} {R Q : Int} {P : Int → Prop}

theorem missing_zero (m : PM) (u : Int) (j : Nat) : ∀ k, ((startTo m u k).1).slot j = m.slot j ∨ ((m.slot j).st = 0 ∧ ((startTo m u k).1).slot j = newSlot 1)
  | 0 => .inl rfl
  | k + 1 => by
    have ih := missing_zero m u j k
    rw [startTo_succ]
    cases hc : (decide ((startTo m u k).2 < m.set.ch) && ((startTo m u k).1.slot k).st == 0)
    · exact ih
    · simp only [Bool.and_eq_true, decide_eq_true_eq, beq_iff_eq] at hc
      simp only [cond_true]
      by_cases ej : j = k
      · subst ej
        right
        refine ⟨?_, by simp⟩
        rcases ih with e | ⟨e, -⟩
        · rw [← e]; exact hc.2
        · exact e
      · simp only [upd_other _ _ ej]; exact ih

theorem leaseTo_slot (h : m.Law a R P) (k : Nat) : ∀ n, n ≤ 6 → (m.leaseTo n).slot k = m.slot k ∨ ((m.slot k).st = 2 ∧ ((m.leaseTo n).slot k).st = 3 ∧ ((m.leaseTo n).slot k).conn ≠ -1)
  | 0, _ => .inl rfl
  | n + 1, hn => by
    have ih := leaseTo_slot h k n (by omega)
    have hl := h.leaseTo n (by omega)
    show ((m.leaseTo n).leaseAt n).slot k = m.slot k ∨ ((m.slot k).st = 2 ∧ (((m.leaseTo n).leaseAt n).slot k).st = 3 ∧ (((m.leaseTo n).leaseAt n).slot k).conn ≠ -1)
    rcases (m.leaseTo n).leaseAt_cases n with e | ⟨i, hi, -, h1, h2, e⟩
    · rw [e]; exact ih
    · rw [e]
      by_cases ek : k = n
      · subst ek
        right
        simp only [PM.lease, upd_same]
        refine ⟨?_, trivial, ?_⟩
        · rw [← (leaseTo_rest m k).1 k (Nat.le_refl _)]; exact h2
        · obtain ⟨c, -, e2⟩ := (hl.okc _ (List.getElem_mem hi)).1
          omega
      · simp only [PM.lease, upd_other _ _ ek]; exact ih

theorem settle_slot (h : m.Law a R P) (k : Nat) : m.settle.slot k = m.slot k ∨ ((m.slot k).st = 0 ∧ m.settle.slot k = newSlot 1) ∨ ((m.slot k).st = 2 ∧ (m.settle.slot k).st = 3 ∧ (m.settle.slot k).conn ≠ -1) := by
  unfold PM.settle PM.leaseWaiting
  cases m.set.dyn
  · simp only [cond_false]
    have h1 := leaseTo_slot h.missing.1 k 6 (Nat.le_refl _)
    have h2 : m.startMissing.slot k = m.slot k ∨ ((m.slot k).st = 0 ∧ m.startMissing.slot k = newSlot 1) := missing_zero m _ k 6
    rcases h1 with e | ⟨e1, e2, e3⟩
    · rw [e]
      rcases h2 with e2 | e2
      · exact .inl e2
      · exact .inr (.inl e2)
    · rcases h2 with e4 | ⟨-, e4⟩
      · rw [e4] at e1; exact .inr (.inr ⟨e1, e2, e3⟩)
      · rw [e4] at e1; cases e1
  · simp only [cond_true]
    rcases leaseTo_slot h k 6 (Nat.le_refl _) with e | e
    · exact .inl e
    · exact .inr (.inr e)

theorem lease_keys {i k : Nat} (hi : i < m.req.length) : (m.lease i k m.req[i]).req.map keyR = m.req.map keyR := map_set_key m.req i _ hi rfl

theorem leaseTo_keys (m : PM) : ∀ k, (m.leaseTo k).req.map keyR = m.req.map keyR ∧ ((∀ r ∈ m.req, r.stage ≠ 0) → ∀ r ∈ (m.leaseTo k).req, r.stage ≠ 0)
  | 0 => ⟨rfl, fun h => h⟩
  | k + 1 => by
    obtain ⟨h1, h2⟩ := leaseTo_keys m k
    show ((m.leaseTo k).leaseAt k).req.map keyR = _ ∧ (_ → ∀ r ∈ ((m.leaseTo k).leaseAt k).req, _)
    rcases (m.leaseTo k).leaseAt_cases k with e | ⟨i, hi, -, h3, h4, e⟩
    · rw [e]; exact ⟨h1, h2⟩
    · rw [e]
      refine ⟨(lease_keys hi).trans h1, fun h r hr => ?_⟩
      rcases List.mem_or_eq_of_mem_set hr with e | rfl
      · exact h2 h r e
      · simp

/-- No request is still collecting. -/
def PM.Ripe (m : PM) : Prop := ∀ r ∈ m.req, r.stage ≠ 0

theorem settle_keys (m : PM) : m.settle.req.map keyR = m.req.map keyR ∧ (m.Ripe → m.settle.Ripe) := by
  unfold PM.settle PM.leaseWaiting PM.Ripe
  cases m.set.dyn
  · have e : m.startMissing.req = m.req := missing_req m _ 6
    have := leaseTo_keys m.startMissing 6
    rw [e] at this
    exact this
  · exact leaseTo_keys m 6

theorem settle_len (m : PM) : m.settle.req.length = m.req.length := by
  have := congrArg List.length (settle_keys m).1
  simpa using this

theorem PM.Ripe.sub (h : m.Ripe) (hr : m'.req.Sublist m.req) : m'.Ripe := fun r hm => h r (hr.subset hm)

/-- What one worker is about to do is done. -/
def PM.turn (m : PM) (j : Nat) : PM := if (m.slot j).st = 1 then m.spawned j else if (m.slot j).st = 3 then m.finished j else if (m.slot j).st = 4 then m.died j else m
def PM.turnTo (m : PM) : Nat → PM
  | 0 => m
  | k + 1 => (m.turnTo k).turn k
def PM.round (m : PM) : PM := (m.turnTo 6).tick

theorem isS_nat {j : Nat} (hj : j < 6) : isS (j : Int) = true := by simp [isS]; omega
theorem spawned_at {j : Nat} (hj : j < 6) (e : (m.slot j).st = 1) : m.afterSpawned j = m.spawned j := by
  have : (m.stE j 1 == 0) = true := by unfold PM.stE; rw [isS_nat hj]; simp [e]
  unfold PM.afterSpawned; rw [this]; simp
theorem finished_at {j : Nat} (hj : j < 6) (e : (m.slot j).st = 3) : m.afterFinished j = m.finished j := by
  have : (m.stE j 3 == 0) = true := by unfold PM.stE; rw [isS_nat hj]; simp [e]
  unfold PM.afterFinished; rw [this]; simp
theorem died_at {j : Nat} (hj : j < 6) (e : (m.slot j).st ≠ 0) : m.afterDied j = m.died j := by
  have : (m.diedE j == 0) = true := by
    have e' : ((m.slot j).st == 0) = false := by simpa using e
    unfold PM.diedE; rw [isS_nat hj]; simp [e']
  unfold PM.afterDied; rw [this]; simp

theorem PM.Sure.turn (h : m.Sure a R Q) {j : Nat} (hj : j < 6) : (m.turn j).Sure a R Q := by
  unfold PM.turn
  split
  · rename_i e; rw [← spawned_at hj e]; exact h.afterSpawned _
  split
  · rename_i e; rw [← finished_at hj e]; exact h.afterFinished _
  split
  · rename_i e; rw [← died_at hj (by omega)]; exact h.afterDied _
  · exact h

/-- Another slot than the one whose key ends is as it was. -/
theorem PM.Law.endKeyOf_other (h : m.Law a R P) {j k : Nat} (hj : j < 6) (hk : k < 6) (hjk : k ≠ j) (st : Int) : (m.endKeyOf j st).slot k = m.slot k := by
  unfold PM.endKeyOf
  cases hc : ((m.slot j).conn != -1)
  · rfl
  · have hc' : (m.slot j).conn ≠ -1 := by simpa using hc
    have hn : ((m.slot j).conn.toNat : Int) = (m.slot j).conn := by
      rcases h.key j hj with e | ⟨r, hr, e, -⟩
      · exact absurd e hc'
      · obtain ⟨n, -, e2⟩ := (h.okc r hr).1
        have : r.conn = (m.slot j).conn := congrArg Prod.fst e
        omega
    simp only [cond_true]
    unfold PM.endKey
    rw [hn]
    rcases drop_slots (m.sendB (m.slot j).conn.toNat (encB 3 (m.slot j).id (strOfNums [st]))) (m.slot j).conn (m.slot j).id h.two hc' k hk with ⟨e, -⟩ | ⟨-, e⟩
    · exact e
    · exact absurd e.symm (h.two j k hj hk (Ne.symm hjk) hc')

/-- A key's end strikes its request. -/
theorem PM.Law.endKeyOf_len (h : m.Law a R P) {j : Nat} (hj : j < 6) (hc : (m.slot j).conn ≠ -1) (st : Int) : (m.endKeyOf j st).req.length < m.req.length := by
  unfold PM.endKeyOf
  rw [show ((m.slot j).conn != -1) = true by simpa using hc]
  simp only [cond_true]
  rw [endKey_req]
  rcases h.key j hj with e | ⟨r, hr, e, -⟩
  · exact absurd e hc
  · obtain ⟨n, -, e2⟩ := (h.okc r hr).1
    have e3 : r.conn = (m.slot j).conn := congrArg Prod.fst e
    have hn : ((m.slot j).conn.toNat : Int) = (m.slot j).conn := by omega
    rw [hn]
    unfold withoutL
    rw [← List.countP_eq_length_filter]
    refine Nat.lt_of_le_of_ne List.countP_le_length fun e4 => ?_
    have := List.countP_eq_length.1 e4 r hr
    rw [isKey_iff.2 (show keyR r = ((m.slot j).conn, (m.slot j).id) from e)] at this
    cases this

theorem turn_len (m : PM) (j : Nat) : (m.turn j).req.length ≤ m.req.length := by
  unfold PM.turn
  split
  · unfold PM.spawned
    rw [settle_len]
    cases (m.slot j).old <;> exact Nat.le_refl _
  split
  · unfold PM.finished PM.retires
    rw [settle_len]
    cases (m.endKeyOf j 0).mustGo j <;> exact (endKeyOf_sub m j 0).length_le
  split
  · unfold PM.died
    rw [settle_len]
    exact (endKeyOf_sub m j 1).length_le
  · exact Nat.le_refl _

theorem PM.Ripe.turn (h : m.Ripe) (j : Nat) : (m.turn j).Ripe := by
  unfold PM.turn
  split
  · unfold PM.spawned
    refine (settle_keys _).2 ?_
    cases (m.slot j).old <;> exact h
  split
  · unfold PM.finished PM.retires
    refine (settle_keys _).2 ?_
    cases (m.endKeyOf j 0).mustGo j <;> exact h.sub (m' := m.endKeyOf j 0) (endKeyOf_sub m j 0)
  split
  · unfold PM.died
    exact (settle_keys _).2 (h.sub (m' := m.endKeyOf j 1) (endKeyOf_sub m j 1))
  · exact h

/-- A turn of another: an Empty slot may be started, an Idle one leased; all else stays. -/
theorem PM.Law.turn_other (h : m.Law a R P) {j k : Nat} (hj : j < 6) (hk : k < 6) (hjk : k ≠ j) : (m.turn j).slot k = m.slot k ∨ ((m.slot k).st = 0 ∧ (m.turn j).slot k = newSlot 1) ∨ ((m.slot k).st = 2 ∧ ((m.turn j).slot k).st = 3 ∧ ((m.turn j).slot k).conn ≠ -1) := by
  unfold PM.turn
  split
  · rename_i e
    have hs := settle_slot (h.spawned0 hj e) k
    have e2 : (cond (m.slot j).old (m.kill j) (m.becomesAt j 2)).slot k = m.slot k := by
      cases (m.slot j).old <;> simp [PM.kill, PM.becomesAt, upd_other _ _ hjk]
    rw [e2] at hs
    exact hs
  split
  · rename_i e
    have hs := settle_slot (h.finished0 hj e) k
    have e2 : ((m.endKeyOf j 0).retires j).slot k = m.slot k := by
      rw [← h.endKeyOf_other hj hk hjk 0]
      unfold PM.retires
      cases (m.endKeyOf j 0).mustGo j <;> simp [PM.kill, PM.becomesAt, upd_other _ _ hjk]
    rw [e2] at hs
    exact hs
  split
  · rename_i e
    have hs := settle_slot (h.died0 hj) k
    have e2 : ((m.endKeyOf j 1).empties j).slot k = m.slot k := by
      rw [← h.endKeyOf_other hj hk hjk 1]
      simp [PM.empties, upd_other _ _ hjk]
    rw [e2] at hs
    exact hs
  · exact .inl rfl

/-- Its own turn. -/
theorem PM.Law.turn_self (h : m.Law a R P) {j : Nat} (hj : j < 6) :
    ((m.slot j).st = 1 ∧ (m.slot j).old = false → ((m.turn j).slot j).st = 2 ∨ ((m.turn j).slot j).conn ≠ -1) ∧
    ((m.slot j).st = 1 ∧ (m.slot j).old = true → ((m.turn j).slot j).st = 4) ∧
    ((m.slot j).st = 3 → ((m.slot j).conn ≠ -1 → (m.turn j).req.length < m.req.length) ∧ (((m.turn j).slot j).st = 4 ∨ ((m.turn j).slot j).st = 2 ∨ ((m.turn j).slot j).conn ≠ -1)) ∧
    ((m.slot j).st = 4 → ((m.turn j).slot j).st = 0 ∨ (m.turn j).slot j = newSlot 1) ∧
    ((m.slot j).st ≠ 1 → (m.slot j).st ≠ 3 → (m.slot j).st ≠ 4 → m.turn j = m) := by
  refine ⟨fun ⟨e, ho⟩ => ?_, fun ⟨e, ho⟩ => ?_, fun e => ⟨fun hc => ?_, ?_⟩, fun e => ?_, fun e1 e2 e3 => ?_⟩
  · have hs := settle_slot (h.spawned0 hj e) j
    unfold PM.turn
    rw [if_pos e]
    unfold PM.spawned
    rw [ho] at hs ⊢
    have e2 : ((m.becomesAt j 2).slot j).st = 2 := by simp [PM.becomesAt, PSlot.becomes]
    simp only [cond_false] at hs ⊢
    rcases hs with x | ⟨x, -⟩ | ⟨-, -, x⟩
    · left; rw [x]; exact e2
    · omega
    · exact .inr x
  · have hs := settle_slot (h.spawned0 hj e) j
    unfold PM.turn
    rw [if_pos e]
    unfold PM.spawned
    rw [ho] at hs ⊢
    have e2 : ((m.kill j).slot j).st = 4 := by simp [PM.kill, PM.becomesAt, PSlot.becomes]
    simp only [cond_true] at hs ⊢
    rcases hs with x | ⟨x, -⟩ | ⟨x, -⟩
    · rw [x]; exact e2
    · omega
    · omega
  · unfold PM.turn
    rw [if_neg (by omega), if_pos e]
    unfold PM.finished PM.retires
    rw [settle_len]
    have := h.endKeyOf_len hj hc 0
    cases (m.endKeyOf j 0).mustGo j <;> exact this
  · have hs := settle_slot (h.finished0 hj e) j
    unfold PM.turn
    rw [if_neg (by omega), if_pos e]
    unfold PM.finished
    unfold PM.retires at hs ⊢
    cases hg : (m.endKeyOf j 0).mustGo j
    · rw [hg] at hs
      simp only [cond_false] at hs ⊢
      have e2 : (((m.endKeyOf j 0).becomesAt j 2).slot j).st = 2 := by simp [PM.becomesAt, PSlot.becomes]
      rcases hs with x | ⟨x, -⟩ | ⟨-, -, x⟩
      · right; left; rw [x]; exact e2
      · omega
      · exact .inr (.inr x)
    · rw [hg] at hs
      simp only [cond_true] at hs ⊢
      have e2 : (((m.endKeyOf j 0).kill j).slot j).st = 4 := by simp [PM.kill, PM.becomesAt, PSlot.becomes]
      rcases hs with x | ⟨x, -⟩ | ⟨x, -⟩
      · left; rw [x]; exact e2
      · omega
      · omega
  · have hs := settle_slot (h.died0 hj) j
    unfold PM.turn
    rw [if_neg (by omega), if_neg (by omega), if_pos e]
    unfold PM.died
    have e2 : (((m.endKeyOf j 1).empties j).slot j).st = 0 := by simp [PM.empties, newSlot]
    rcases hs with x | ⟨-, x⟩ | ⟨x, -⟩
    · left; rw [x]; exact e2
    · exact .inr x
    · omega
  · unfold PM.turn
    rw [if_neg e1, if_neg e2, if_neg e3]

def PM.Keyed (m : PM) : Prop := ∃ k, k < 6 ∧ (m.slot k).conn ≠ -1
def PM.Alive (m : PM) : Prop := m.Keyed ∨ ∃ k, k < 6 ∧ (m.slot k).st = 1 ∧ (m.slot k).old = false
def PM.flat (m : PM) (n : Nat) : Prop := ∀ k, k < n → (m.slot k).st = 0 ∨ (m.slot k).st = 4
def PM.bare (m : PM) (n : Nat) : Prop := ∀ k, k < n → (m.slot k).st = 0

/-- An Idle slot beside requests that are not collecting: somebody is served. -/
theorem PM.Sure.keyed (h : m.Sure a R Q) (hr : m.Ripe) (hn : 0 < m.req.length) {k : Nat} (hk : k < 6) (e : (m.slot k).st = 2) : m.Keyed := by
  have hw := h.calm.rest ⟨k, hk, e⟩
  have hm : m.req[0] ∈ m.req := List.getElem_mem hn
  have h2 : m.req[0].stage = 2 := by
    rcases h.law.stg _ hm with x | x | x
    · exact absurd x (hr _ hm)
    · exfalso
      have : (m.req[0].conn, m.req[0].id) ∈ m.waits := List.mem_map.2 ⟨m.req[0], List.mem_filter.2 ⟨hm, by simp [x]⟩, rfl⟩
      rw [hw] at this; cases this
    · exact x
  obtain ⟨j, hj, e2⟩ := h.law.held _ hm h2
  obtain ⟨n, -, e3⟩ := (h.law.okc _ hm).1
  refine ⟨j, hj, ?_⟩
  have : (m.slot j).conn = m.req[0].conn := congrArg Prod.fst e2
  omega

theorem PM.Sure.keyed_turn (h : m.Sure a R Q) (hk : m.Keyed) {j : Nat} (hj : j < 6) : (m.turn j).req.length < m.req.length ∨ (m.turn j).Keyed := by
  obtain ⟨k, hk6, hc⟩ := hk
  have h3 := h.law.busy hk6 hc
  by_cases e : k = j
  · subst e
    left
    exact ((h.law.turn_self hk6).2.2.1 h3).1 hc
  · right
    rcases h.law.turn_other hj hk6 e with x | ⟨x, -⟩ | ⟨x, -⟩
    · exact ⟨k, hk6, by rw [x]; exact hc⟩
    · omega
    · omega

theorem PM.Sure.alive_turn (h : m.Sure a R Q) (hr : m.Ripe) (hn : 0 < m.req.length) (hk : m.Alive) {j : Nat} (hj : j < 6) : (m.turn j).req.length < m.req.length ∨ (m.turn j).Alive := by
  rcases hk with x | ⟨k, hk6, h1, ho⟩
  · rcases h.keyed_turn x hj with y | y
    · exact .inl y
    · exact .inr (.inl y)
  · by_cases e : k = j
    · subst e
      have hlen := turn_len m k
      by_cases hl : (m.turn k).req.length < m.req.length
      · exact .inl hl
      · right; left
        rcases (h.law.turn_self hk6).1 ⟨h1, ho⟩ with x | x
        · exact (h.turn hk6).keyed (hr.turn k) (by omega) hk6 x
        · exact ⟨k, hk6, x⟩
    · right; right
      rcases h.law.turn_other hj hk6 e with x | ⟨x, -⟩ | ⟨x, -⟩
      · exact ⟨k, hk6, by rw [x]; exact ⟨h1, ho⟩⟩
      · omega
      · omega

theorem PM.Sure.turnTo (h : m.Sure a R Q) : ∀ k, k ≤ 6 → (m.turnTo k).Sure a R Q
  | 0, _ => h
  | k + 1, hk => (PM.Sure.turnTo h k (by omega)).turn (by omega)
theorem PM.Ripe.turnTo (h : m.Ripe) : ∀ k, (m.turnTo k).Ripe
  | 0 => h
  | k + 1 => (PM.Ripe.turnTo h k).turn k
theorem turnTo_len (m : PM) : ∀ k, (m.turnTo k).req.length ≤ m.req.length
  | 0 => Nat.le_refl _
  | k + 1 => Nat.le_trans (turn_len _ k) (turnTo_len m k)

/-- Who has a key at the start of a round is served in it. -/
theorem PM.Sure.keyed_all (h : m.Sure a R Q) {k : Nat} (hk : k < 6) (hc : (m.slot k).conn ≠ -1) : ∀ n, n ≤ 6 → (n ≤ k → (m.turnTo n).slot k = m.slot k) ∧ (k < n → (m.turnTo n).req.length < m.req.length)
  | 0, _ => ⟨fun _ => rfl, fun x => by omega⟩
  | n + 1, hn => by
    obtain ⟨h1, h2⟩ := PM.Sure.keyed_all h hk hc n (by omega)
    have hS := h.turnTo n (by omega)
    refine ⟨fun hle => ?_, fun hlt => ?_⟩
    · have e := h1 (by omega)
      have h3 := h.law.busy hk hc
      rcases hS.law.turn_other (j := n) (by omega) hk (by omega) with x | ⟨x, -⟩ | ⟨x, -⟩
      · exact x.trans e
      · rw [e] at x; omega
      · rw [e] at x; omega
    · by_cases e : k = n
      · subst e
        have e := h1 (Nat.le_refl _)
        have h3 := h.law.busy hk hc
        have := ((hS.law.turn_self hk).2.2.1 (by rw [e]; exact h3)).1 (by rw [e]; exact hc)
        have h4 := turnTo_len m k
        show ((m.turnTo k).turn k).req.length < _
        omega
      · have := h2 (by omega)
        have h5 := turn_len (m.turnTo n) n
        show ((m.turnTo n).turn n).req.length < _
        omega

/-- Somebody about to serve: behind all turns one is served, or has been. -/
theorem PM.Sure.alive_all (h : m.Sure a R Q) (hr : m.Ripe) (hn : 0 < m.req.length) (hk : m.Alive) : (m.turnTo 6).req.length < m.req.length ∨ (m.turnTo 6).Keyed := by
  rcases hk with ⟨k, hk6, hc⟩ | ⟨k, hk6, h1, ho⟩
  · exact .inl ((h.keyed_all hk6 hc 6 (Nat.le_refl _)).2 hk6)
  · have key : ∀ n, n ≤ 6 → (m.turnTo n).req.length < m.req.length ∨ (n ≤ k → (m.turnTo n).slot k = m.slot k) ∧ (k < n → (m.turnTo n).Keyed) := by
      intro n
      induction n with
      | zero => intro _; exact .inr ⟨fun _ => rfl, fun x => by omega⟩
      | succ n ih =>
        intro hn6
        have hS := h.turnTo n (by omega)
        have hR := hr.turnTo n
        have hl := turn_len (m.turnTo n) n
        have hl2 := turnTo_len m n
        show ((m.turnTo n).turn n).req.length < m.req.length ∨ (n + 1 ≤ k → ((m.turnTo n).turn n).slot k = m.slot k) ∧ (k < n + 1 → ((m.turnTo n).turn n).Keyed)
        rcases ih (by omega) with x | ⟨x1, x2⟩
        · left; omega
        · by_cases hd : ((m.turnTo n).turn n).req.length < m.req.length
          · exact .inl hd
          · right
            refine ⟨fun hle => ?_, fun hlt => ?_⟩
            · have e := x1 (by omega)
              rcases hS.law.turn_other (j := n) (by omega) hk6 (by omega) with y | ⟨y, -⟩ | ⟨y, -⟩
              · exact y.trans e
              · rw [e] at y; omega
              · rw [e] at y; omega
            · by_cases e : k = n
              · subst e
                have e := x1 (Nat.le_refl _)
                rcases (hS.law.turn_self hk6).1 (by rw [e]; exact ⟨h1, ho⟩) with y | y
                · exact (hS.turn hk6).keyed (hR.turn k) (by omega) hk6 y
                · exact ⟨k, hk6, y⟩
              · rcases hS.keyed_turn (x2 (by omega)) (j := n) (by omega) with y | y
                · omega
                · exact y
    rcases key 6 (Nat.le_refl _) with x | ⟨-, x⟩
    · exact .inl x
    · exact .inr (x hk6)

/-- From whatever: behind all turns somebody is about to serve, or all are Empty or Dying. -/
theorem PM.Sure.any_all (h : m.Sure a R Q) (hr : m.Ripe) : ∀ n, n ≤ 6 → (m.turnTo n).req.length < m.req.length ∨ (m.turnTo n).req.length = 0 ∨ (m.turnTo n).Alive ∨ (m.turnTo n).flat n
  | 0, _ => .inr (.inr (.inr fun k hk => by omega))
  | n + 1, hn6 => by
    have hS := h.turnTo n (by omega)
    have hR := hr.turnTo n
    have hl := turn_len (m.turnTo n) n
    have hl2 := turnTo_len m n
    have ih := PM.Sure.any_all h hr n (by omega)
    show ((m.turnTo n).turn n).req.length < m.req.length ∨ ((m.turnTo n).turn n).req.length = 0 ∨ ((m.turnTo n).turn n).Alive ∨ ((m.turnTo n).turn n).flat (n + 1)
    by_cases hd : ((m.turnTo n).turn n).req.length < m.req.length
    · exact .inl hd
    by_cases h0 : ((m.turnTo n).turn n).req.length = 0
    · exact .inr (.inl h0)
    rcases ih with x | x | x | x
    · omega
    · omega
    · rcases hS.alive_turn hR (by omega) x (j := n) (by omega) with y | y
      · omega
      · exact .inr (.inr (.inl y))
    · by_cases ha : ((m.turnTo n).turn n).Alive
      · exact .inr (.inr (.inl ha))
      · right; right; right
        have hS' := hS.turn (j := n) (by omega)
        have hR' := hR.turn n
        have noIdle : ∀ k, k < 6 → (((m.turnTo n).turn n).slot k).st ≠ 2 := fun k hk e => ha (.inl (hS'.keyed hR' (by omega) hk e))
        have noKey : ∀ k, k < 6 → (((m.turnTo n).turn n).slot k).conn = -1 := fun k hk => by
          by_cases e : (((m.turnTo n).turn n).slot k).conn = -1
          · exact e
          · exact absurd (.inl ⟨k, hk, e⟩) ha
        have noNew : ∀ k, k < 6 → ((m.turnTo n).turn n).slot k ≠ newSlot 1 := fun k hk e => ha (.inr ⟨k, hk, by rw [e]; exact ⟨rfl, rfl⟩⟩)
        intro k hk
        by_cases e : k = n
        · subst e
          obtain ⟨s1, s2, s3, s4, s5⟩ := hS.law.turn_self (j := k) (by omega)
          by_cases t1 : ((m.turnTo k).slot k).st = 1
          · cases ho : ((m.turnTo k).slot k).old
            · rcases s1 ⟨t1, ho⟩ with y | y
              · exact absurd y (noIdle k (by omega))
              · exact absurd (noKey k (by omega)) y
            · exact .inr (s2 ⟨t1, ho⟩)
          · by_cases t3 : ((m.turnTo k).slot k).st = 3
            · rcases (s3 t3).2 with y | y | y
              · exact .inr y
              · exact absurd y (noIdle k (by omega))
              · exact absurd (noKey k (by omega)) y
            · by_cases t4 : ((m.turnTo k).slot k).st = 4
              · rcases s4 t4 with y | y
                · exact .inl y
                · exact absurd y (noNew k (by omega))
              · have e5 := s5 t1 t3 t4
                have n2 := noIdle k (by omega)
                rw [e5] at n2 ⊢
                left
                have := (hS.law.loc k (by omega)).dom
                omega
        · rcases hS.law.turn_other (j := n) (k := k) (by omega) (by omega) e with y | ⟨-, y⟩ | ⟨-, -, y⟩
          · rw [y]; exact x k (by omega)
          · exact absurd y (noNew k (by omega))
          · exact absurd (noKey k (by omega)) y

end
end Go.Proofs.Ytlafkpaljibonaa

namespace Go.Proofs.Ytlafkpaljibonaa
open Go.RowKit

section
variable {m m' : PM} {a : Bool} {R Q : Int} {P : Int → Prop}

theorem lateTo_slot (h : m.Law a R P) {k : Nat} (hk : k < 6) : ∀ n, n ≤ 6 → (m.lateTo n).slot k = m.slot k ∨ (k < n ∧ (m.slot k).st = 3 ∧ ((m.lateTo n).slot k).st = 4 ∧ ((m.slot k).conn ≠ -1 → (m.lateTo n).req.length < m.req.length))
  | 0, _ => .inl rfl
  | n + 1, hn => by
    have ih := lateTo_slot h hk n (by omega)
    obtain ⟨h1, h2, -⟩ := lateTo_law h n (by omega)
    have hl := h2.length_le
    have e : m.lateTo (n + 1) = cond ((m.lateTo n).lateAt n) (((m.lateTo n).endKeyOf n 6).kill n) (m.lateTo n) := rfl
    rw [e]
    cases hla : (m.lateTo n).lateAt n
    · rcases ih with x | ⟨x1, x2⟩
      · exact .inl x
      · exact .inr ⟨by omega, x2⟩
    · simp only [cond_true]
      have h3 : ((m.lateTo n).slot n).st = 3 := by
        simp only [PM.lateAt, Bool.and_eq_true, beq_iff_eq] at hla; exact hla.1
      have hsub := (endKeyOf_sub (m.lateTo n) n 6).length_le
      have hreq : (((m.lateTo n).endKeyOf n 6).kill n).req = ((m.lateTo n).endKeyOf n 6).req := rfl
      by_cases ek : k = n
      · subst ek
        rcases ih with x | ⟨x1, -⟩
        · right
          rw [x] at h3
          refine ⟨by omega, h3, by simp [PM.kill, PM.becomesAt, PSlot.becomes], fun hc => ?_⟩
          have := h1.endKeyOf_len hk (by rw [x]; exact hc) 6
          rw [hreq]; omega
        · omega
      · have e2 : (((m.lateTo n).endKeyOf n 6).kill n).slot k = (m.lateTo n).slot k := by
          rw [← h1.endKeyOf_other (by omega) hk ek 6]
          simp [PM.kill, PM.becomesAt, upd_other _ _ ek]
        rw [e2]
        rcases ih with x | ⟨x1, x2, x3, x4⟩
        · exact .inl x
        · right
          refine ⟨by omega, x2, x3, fun hc => ?_⟩
          have := x4 hc
          rw [hreq]; omega

theorem late_slot (h : m.Law a R P) {k : Nat} (hk : k < 6) : m.late.slot k = m.slot k ∨ ((m.slot k).st = 3 ∧ (m.late.slot k).st = 4 ∧ ((m.slot k).conn ≠ -1 → m.late.req.length < m.req.length)) := by
  unfold PM.late
  cases decide (0 < m.set.tmo)
  · exact .inl rfl
  · rcases lateTo_slot h hk 6 (Nat.le_refl _) with x | ⟨-, x⟩
    · exact .inl x
    · exact .inr x

theorem late_law (h : m.Law a R P) : m.late.Law a R P ∧ m.late.req.Sublist m.req ∧ m.late.set = m.set := by
  unfold PM.late
  cases decide (0 < m.set.tmo)
  · exact ⟨h, List.Sublist.refl _, rfl⟩
  · exact lateTo_law h 6 (Nat.le_refl _)

theorem spares_slot (m : PM) (k : Nat) : m.spares.slot k = m.slot k ∨ ((m.slot k).st = 0 ∧ m.spares.slot k = newSlot 1) ∨ ((m.slot k).st = 2 ∧ (m.spares.slot k).st = 4) := by
  unfold PM.spares
  cases (decide (m.freshTo 6 < m.set.mn) && decide (m.usedTo 6 < m.set.ch))
  · cases decide (m.set.mx < m.inTo 2 6)
    · exact .inl rfl
    · simp only [cond_false, cond_true]
      unfold PM.killLast
      cases hl : m.lastTo 6 with
      | none => exact .inl rfl
      | some j =>
        obtain ⟨-, h2⟩ := lastTo_some hl
        by_cases e : k = j
        · subst e; exact .inr (.inr ⟨h2, by simp [PM.killAt, PM.kill, PM.becomesAt, PSlot.becomes]⟩)
        · exact .inl (by simp [PM.killAt, PM.kill, PM.becomesAt, upd_other _ _ e])
  · simp only [cond_true]
    unfold PM.startOne
    cases he : m.emptyTo 6 with
    | none => exact .inl rfl
    | some j =>
      obtain ⟨-, h2⟩ := PM.emptyTo_lt he
      by_cases e : k = j
      · subst e; exact .inr (.inl ⟨h2, by simp [PM.startAt]⟩)
      · exact .inl (by simp [PM.startAt, upd_other _ _ e])

theorem tickS_law (h : m.Law a R P) : m.tickS.Law a R P ∧ m.tickS.req.Sublist m.req ∧ m.tickS.set = m.set := by
  obtain ⟨h1, h2, h3⟩ := late_law (m := m.ticked) (a := a) (R := R) (P := P) (h.same rfl rfl rfl)
  unfold PM.tickS
  cases m.set.dyn
  · exact ⟨h1, h2, h3⟩
  · obtain ⟨h4, h5, h6⟩ := h1.spares
    exact ⟨h4, by rw [cond_true, h5]; exact h2, h6.trans h3⟩

theorem tickS_slot (h : m.Law a R P) {k : Nat} (hk : k < 6) : m.tickS.slot k = m.slot k ∨ ((m.slot k).st = 3 ∧ (m.tickS.slot k).st = 4 ∧ ((m.slot k).conn ≠ -1 → m.tickS.req.length < m.req.length)) ∨ ((m.slot k).st = 0 ∧ m.tickS.slot k = newSlot 1) ∨ ((m.slot k).st = 2 ∧ (m.tickS.slot k).st = 4) := by
  have hl : m.ticked.Law a R P := h.same rfl rfl rfl
  have h1 : m.ticked.late.slot k = m.slot k ∨ ((m.slot k).st = 3 ∧ (m.ticked.late.slot k).st = 4 ∧ ((m.slot k).conn ≠ -1 → m.ticked.late.req.length < m.req.length)) := late_slot hl hk
  unfold PM.tickS
  cases m.set.dyn
  · simp only [cond_false]
    rcases h1 with x | x
    · exact .inl x
    · exact .inr (.inl x)
  · simp only [cond_true]
    have h2 := spares_slot m.ticked.late k
    have h3 : m.ticked.late.spares.req = m.ticked.late.req := (late_law hl).1.spares.2.1
    rw [h3]
    rcases h1 with x | ⟨x1, x2, x3⟩
    · rcases h2 with y | ⟨y1, y2⟩ | ⟨y1, y2⟩
      · exact .inl (y.trans x)
      · rw [x] at y1; exact .inr (.inr (.inl ⟨y1, y2⟩))
      · rw [x] at y1; exact .inr (.inr (.inr ⟨y1, y2⟩))
    · rcases h2 with y | ⟨y1, -⟩ | ⟨y1, -⟩
      · exact .inr (.inl ⟨x1, by rw [y]; exact x2, x3⟩)
      · omega
      · omega

theorem tick_len (h : m.Law a R P) : m.tick.req.length ≤ m.req.length := by
  unfold PM.tick
  rw [settle_len]
  exact (tickS_law h).2.1.length_le
theorem PM.Ripe.tick (hr : m.Ripe) (h : m.Law a R P) : m.tick.Ripe := (settle_keys _).2 (hr.sub (tickS_law h).2.1)

/-- A slot that is Busy or Starting, behind a Tick. -/
theorem tick_slot (h : m.Law a R P) {k : Nat} (hk : k < 6) (h1 : (m.slot k).st = 1 ∨ (m.slot k).st = 3) : m.tick.slot k = m.slot k ∨ ((m.slot k).st = 3 ∧ ((m.slot k).conn ≠ -1 → m.tick.req.length < m.req.length)) := by
  have hs := settle_slot (tickS_law h).1 k
  have hlen : m.tick.req.length = m.tickS.req.length := settle_len _
  rcases tickS_slot h hk with x | ⟨x1, x2, x3⟩ | ⟨x, -⟩ | ⟨x, -⟩
  · rw [x] at hs
    rcases hs with y | ⟨y, -⟩ | ⟨y, -⟩
    · exact .inl y
    · omega
    · omega
  · exact .inr ⟨x1, fun hc => by rw [hlen]; exact x3 hc⟩
  · omega
  · omega

theorem tick_keyed (h : m.Law a R P) (hk : m.Keyed) : m.tick.req.length < m.req.length ∨ m.tick.Keyed := by
  obtain ⟨k, hk6, hc⟩ := hk
  rcases tick_slot h hk6 (.inr (h.busy hk6 hc)) with x | ⟨-, x⟩
  · exact .inr ⟨k, hk6, by rw [x]; exact hc⟩
  · exact .inl (x hc)

theorem tick_alive (h : m.Law a R P) (hk : m.Alive) : m.tick.req.length < m.req.length ∨ m.tick.Alive := by
  rcases hk with x | ⟨k, hk6, h1, ho⟩
  · rcases tick_keyed h x with y | y
    · exact .inl y
    · exact .inr (.inl y)
  · rcases tick_slot h hk6 (.inl h1) with x | ⟨x, -⟩
    · exact .inr (.inr ⟨k, hk6, by rw [x]; exact ⟨h1, ho⟩⟩)
    · omega

theorem tick_flat (h : m.Law a R P) (hf : m.flat 6) : m.tick.Alive ∨ m.tick.flat 6 := by
  by_cases ha : m.tick.Alive
  · exact .inl ha
  · right
    intro k hk
    have hs := settle_slot (tickS_law h).1 k
    have h0 := hf k hk
    have noNew : m.tick.slot k ≠ newSlot 1 := fun e => ha (.inr ⟨k, hk, by rw [e]; exact ⟨rfl, rfl⟩⟩)
    have e : m.tick.slot k = m.tickS.settle.slot k := rfl
    rw [← e] at hs
    rcases hs with y | ⟨-, y⟩ | ⟨y, -⟩
    · rw [y]
      rcases tickS_slot h hk with x | ⟨x1, -⟩ | ⟨-, x⟩ | ⟨x, -⟩
      · rw [x]; exact h0
      · omega
      · exact absurd (y.trans x) noNew
      · omega
    · exact absurd y noNew
    · rcases tickS_slot h hk with x | ⟨x1, -⟩ | ⟨-, x⟩ | ⟨x, -⟩
      · rw [x] at y; omega
      · omega
      · rw [x] at y; cases y
      · omega

theorem fresh_bare {m : PM} : ∀ n, m.bare n → m.freshTo n = 0 ∧ m.usedTo n = 0
  | 0, _ => ⟨rfl, rfl⟩
  | n + 1, h => by
    obtain ⟨h1, h2⟩ := fresh_bare n fun k hk => h k (by omega)
    have h0 := h n (by omega)
    simp only [PM.freshTo, PM.usedTo, h1, h2, h0, freshS]
    exact ⟨rfl, rfl⟩

theorem Cfg.ok_dyn {c : Cfg} (h : c.ok = true) (hd : c.dyn = true) : 1 ≤ c.mn := by
  simp only [Cfg.ok, hd, Bool.and_eq_true, decide_eq_true_eq, Bool.not_true, Bool.false_or] at h
  omega

theorem tick_bare (h : m.Law a R P) (hc : m.Calm) (hb : m.bare 6) : m.tick.Alive := by
  have hu := (fresh_bare 6 hb).2
  have hch := (Cfg.ok_bd h.cfg).1
  cases hd : m.set.dyn
  · have := hc.full hd
    omega
  · have hl : m.ticked.Law a R P := h.same rfl rfl rfl
    obtain ⟨l1, l2, l3⟩ := late_law hl
    have hb2 : m.ticked.late.bare 6 := by
      intro k hk
      rcases late_slot hl hk with x | ⟨x, -⟩
      · rw [x]; exact hb k hk
      · have := hb k hk
        have e : (m.ticked.slot k).st = (m.slot k).st := rfl
        omega
    obtain ⟨f1, f2⟩ := fresh_bare 6 hb2
    have hmn := Cfg.ok_dyn h.cfg hd
    have e3 : m.ticked.late.set = m.set := l3
    have hsp : m.ticked.late.spares = m.ticked.late.startAt 0 := by
      unfold PM.spares
      rw [f1, f2, e3]
      rw [show (decide (0 < m.set.mn) && decide (0 < m.set.ch)) = true by simp; omega]
      simp only [cond_true]
      unfold PM.startOne
      have : m.ticked.late.emptyTo 6 = some 0 := by
        have h0 := hb2 0 (by omega)
        simp [PM.emptyTo, h0]
      rw [this]
    have hts : m.tickS = m.ticked.late.startAt 0 := by
      unfold PM.tickS; rw [hd]; exact hsp
    have hs := settle_slot (tickS_law h).1 0
    have e0 : m.tickS.slot 0 = newSlot 1 := by rw [hts]; simp [PM.startAt]
    rw [e0] at hs
    right
    refine ⟨0, by omega, ?_⟩
    show (m.tickS.settle.slot 0).st = 1 ∧ (m.tickS.settle.slot 0).old = false
    rcases hs with x | ⟨x, -⟩ | ⟨x, -⟩
    · rw [x]; exact ⟨rfl, rfl⟩
    · cases x
    · cases x

/-- All are Empty or Dying: behind the turns somebody is about to serve, or all are Empty. -/
theorem PM.Sure.flat_all (h : m.Sure a R Q) (hr : m.Ripe) (hn : 0 < m.req.length) (hf : m.flat 6) : ∀ n, n ≤ 6 → (m.turnTo n).req.length < m.req.length ∨ (m.turnTo n).Alive ∨ ((m.turnTo n).bare n ∧ (m.turnTo n).flat 6)
  | 0, _ => .inr (.inr ⟨fun k hk => by omega, hf⟩)
  | n + 1, hn6 => by
    have hS := h.turnTo n (by omega)
    have hR := hr.turnTo n
    have hl := turn_len (m.turnTo n) n
    have hl2 := turnTo_len m n
    have ih := PM.Sure.flat_all h hr hn hf n (by omega)
    show ((m.turnTo n).turn n).req.length < m.req.length ∨ ((m.turnTo n).turn n).Alive ∨ (((m.turnTo n).turn n).bare (n + 1) ∧ ((m.turnTo n).turn n).flat 6)
    by_cases hd : ((m.turnTo n).turn n).req.length < m.req.length
    · exact .inl hd
    rcases ih with x | x | ⟨x1, x2⟩
    · omega
    · rcases hS.alive_turn hR (by omega) x (j := n) (by omega) with y | y
      · omega
      · exact .inr (.inl y)
    · by_cases ha : ((m.turnTo n).turn n).Alive
      · exact .inr (.inl ha)
      · right; right
        have noNew : ∀ k, k < 6 → ((m.turnTo n).turn n).slot k ≠ newSlot 1 := fun k hk e => ha (.inr ⟨k, hk, by rw [e]; exact ⟨rfl, rfl⟩⟩)
        have hself : (((m.turnTo n).turn n).slot n).st = 0 := by
          obtain ⟨-, -, -, s4, s5⟩ := hS.law.turn_self (j := n) (by omega)
          rcases x2 n (by omega) with t | t
          · rw [s5 (by omega) (by omega) (by omega)]; exact t
          · rcases s4 t with y | y
            · exact y
            · exact absurd y (noNew n (by omega))
        have hoth : ∀ k, k < 6 → k ≠ n → ((m.turnTo n).turn n).slot k = (m.turnTo n).slot k := by
          intro k hk e
          have := x2 k hk
          rcases hS.law.turn_other (j := n) (k := k) (by omega) hk e with y | ⟨-, y⟩ | ⟨y, -⟩
          · exact y
          · exact absurd y (noNew k hk)
          · omega
        refine ⟨fun k hk => ?_, fun k hk => ?_⟩
        · by_cases e : k = n
          · subst e; exact hself
          · rw [hoth k (by omega) e]; exact x1 k (by omega)
        · by_cases e : k = n
          · subst e; exact .inl hself
          · rw [hoth k hk e]; exact x2 k hk

theorem PM.Sure.round (h : m.Sure a R Q) : m.round.Sure a R Q := (h.turnTo 6 (Nat.le_refl _)).tick
theorem PM.Ripe.round (hr : m.Ripe) (h : m.Sure a R Q) : m.round.Ripe := (hr.turnTo 6).tick (h.turnTo 6 (Nat.le_refl _)).law
theorem round_len (h : m.Sure a R Q) : m.round.req.length ≤ m.req.length := Nat.le_trans (tick_len (h.turnTo 6 (Nat.le_refl _)).law) (turnTo_len m 6)

theorem round_keyed (h : m.Sure a R Q) (hk : m.Keyed) : m.round.req.length < m.req.length := by
  obtain ⟨k, hk6, hc⟩ := hk
  have h1 := (h.keyed_all hk6 hc 6 (Nat.le_refl _)).2 hk6
  have h2 := tick_len (h.turnTo 6 (Nat.le_refl _)).law
  show (m.turnTo 6).tick.req.length < _
  omega

theorem round_alive (h : m.Sure a R Q) (hr : m.Ripe) (hn : 0 < m.req.length) (hk : m.Alive) : m.round.req.length < m.req.length ∨ m.round.Keyed := by
  have hS := h.turnTo 6 (Nat.le_refl _)
  have h2 := tick_len hS.law
  have h3 := turnTo_len m 6
  show (m.turnTo 6).tick.req.length < _ ∨ (m.turnTo 6).tick.Keyed
  rcases h.alive_all hr hn hk with x | x
  · left; omega
  · rcases tick_keyed hS.law x with y | y
    · left; omega
    · exact .inr y

theorem round_flat (h : m.Sure a R Q) (hr : m.Ripe) (hn : 0 < m.req.length) (hf : m.flat 6) : m.round.req.length < m.req.length ∨ m.round.Alive := by
  have hS := h.turnTo 6 (Nat.le_refl _)
  have h2 := tick_len hS.law
  have h3 := turnTo_len m 6
  show (m.turnTo 6).tick.req.length < _ ∨ (m.turnTo 6).tick.Alive
  rcases h.flat_all hr hn hf 6 (Nat.le_refl _) with x | x | ⟨x, -⟩
  · left; omega
  · rcases tick_alive hS.law x with y | y
    · left; omega
    · exact .inr y
  · exact .inr (tick_bare hS.law hS.calm x)

theorem round_any (h : m.Sure a R Q) (hr : m.Ripe) (hn : 0 < m.req.length) : m.round.req.length < m.req.length ∨ m.round.Alive ∨ m.round.flat 6 := by
  have hS := h.turnTo 6 (Nat.le_refl _)
  have h2 := tick_len hS.law
  have h3 := turnTo_len m 6
  show (m.turnTo 6).tick.req.length < _ ∨ (m.turnTo 6).tick.Alive ∨ (m.turnTo 6).tick.flat 6
  rcases h.any_all hr 6 (Nat.le_refl _) with x | x | x | x
  · left; omega
  · left; omega
  · rcases tick_alive hS.law x with y | y
    · left; omega
    · exact .inr (.inl y)
  · exact .inr (tick_flat hS.law x)

def PM.rounds (m : PM) : Nat → PM
  | 0 => m
  | n + 1 => (m.rounds n).round

theorem rounds_good (h : m.Sure a R Q) (hr : m.Ripe) : ∀ n, (m.rounds n).Sure a R Q ∧ (m.rounds n).Ripe ∧ (m.rounds n).req.length ≤ m.req.length
  | 0 => ⟨h, hr, Nat.le_refl _⟩
  | n + 1 => by
    obtain ⟨h1, h2, h3⟩ := rounds_good h hr n
    exact ⟨h1.round, h2.round h1, Nat.le_trans (round_len h1) h3⟩

theorem rounds_four (h : m.Sure a R Q) (hr : m.Ripe) (hn : 0 < m.req.length) : (m.rounds 4).req.length < m.req.length := by
  obtain ⟨s1, r1, l1⟩ := rounds_good h hr 1
  obtain ⟨s2, r2, l2⟩ := rounds_good h hr 2
  obtain ⟨s3, r3, l3⟩ := rounds_good h hr 3
  have q2 : (m.rounds 2).req.length ≤ (m.rounds 1).req.length := round_len s1
  have q3 : (m.rounds 3).req.length ≤ (m.rounds 2).req.length := round_len s2
  have q4 : (m.rounds 4).req.length ≤ (m.rounds 3).req.length := round_len s3
  by_cases d1 : (m.rounds 1).req.length < m.req.length
  · omega
  by_cases d2 : (m.rounds 2).req.length < m.req.length
  · omega
  by_cases d3 : (m.rounds 3).req.length < m.req.length
  · omega
  have fromKeyed3 : (m.rounds 3).Keyed → (m.rounds 4).req.length < m.req.length := fun k => by
    have : (m.rounds 4).req.length < (m.rounds 3).req.length := round_keyed s3 k
    omega
  have fromAlive2 : (m.rounds 2).Alive → (m.rounds 4).req.length < m.req.length := fun k => by
    rcases round_alive s2 r2 (by omega) k with x | x
    · exact absurd (show (m.rounds 3).req.length < (m.rounds 2).req.length from x) (by omega)
    · exact fromKeyed3 x
  have fromAlive1 : (m.rounds 1).Alive → (m.rounds 4).req.length < m.req.length := fun k => by
    rcases round_alive s1 r1 (by omega) k with x | x
    · exact absurd (show (m.rounds 2).req.length < (m.rounds 1).req.length from x) (by omega)
    · exact fromAlive2 (.inl x)
  rcases round_any h hr hn with x | x | x
  · exact absurd (show (m.rounds 1).req.length < m.req.length from x) (by omega)
  · exact fromAlive1 x
  · rcases round_flat s1 r1 (by omega) x with y | y
    · exact absurd (show (m.rounds 2).req.length < (m.rounds 1).req.length from y) (by omega)
    · exact fromAlive2 y

theorem rounds_add (m : PM) (n : Nat) : ∀ k, m.rounds (n + k) = (m.rounds n).rounds k
  | 0 => rfl
  | k + 1 => congrArg PM.round (rounds_add m n k)

theorem rounds_many (h : m.Sure a R Q) (hr : m.Ripe) : ∀ k, (m.rounds (4 * k)).req.length ≤ m.req.length - k
  | 0 => Nat.le_refl _
  | k + 1 => by
    have ih := rounds_many h hr k
    obtain ⟨s1, r1, l1⟩ := rounds_good h hr (4 * k)
    rw [show 4 * (k + 1) = 4 * k + 4 by omega, rounds_add]
    obtain ⟨-, -, l4⟩ := rounds_good s1 r1 4
    by_cases h0 : 0 < (m.rounds (4 * k)).req.length
    · have := rounds_four s1 r1 h0
      omega
    · omega

theorem nodup_lt : ∀ (n : Nat) (l : List Nat), l.Nodup → (∀ x ∈ l, x < n) → l.length ≤ n
  | 0, l, _, h => by
    cases l with
    | nil => exact Nat.le_refl _
    | cons x l => exact absurd (h x (List.mem_cons_self ..)) (by omega)
  | n + 1, l, hd, h => by
    have h1 : (l.erase n).Nodup := hd.erase n
    have h2 : ∀ x ∈ l.erase n, x < n := fun x hx => by
      obtain ⟨a, b⟩ := (hd.mem_erase_iff).1 hx
      have := h x b
      omega
    have := nodup_lt n (l.erase n) h1 h2
    have h3 := List.length_erase_le (a := n) (l := l)
    have h4 : l.length - 1 ≤ (l.erase n).length := by rw [List.length_erase]; split <;> omega
    omega

theorem req_few (h : m.Law a R P) (hi : ∀ r ∈ m.req, 1 ≤ r.id ∧ r.id ≤ 6) : m.req.length ≤ 24 := by
  have hd : (m.req.map fun r => r.conn.toNat * 6 + (r.id - 1).toNat).Nodup := by
    have h1 := h.dis
    have h2 := h.okc
    revert h1 h2 hi
    generalize m.req = l
    intro hi h1 h2
    induction l with
    | nil => exact List.nodup_nil
    | cons x l ih =>
      rw [List.map_cons, List.nodup_cons] at h1 ⊢
      refine ⟨fun hx => h1.1 ?_, ih (fun r hr => hi r (List.mem_cons_of_mem _ hr)) h1.2 (fun r hr => h2 r (List.mem_cons_of_mem _ hr))⟩
      obtain ⟨r, hr, e⟩ := List.mem_map.1 hx
      refine List.mem_map.2 ⟨r, hr, ?_⟩
      obtain ⟨n, hn, e1⟩ := (h2 r (List.mem_cons_of_mem _ hr)).1
      obtain ⟨n', hn', e2⟩ := (h2 x (List.mem_cons_self ..)).1
      have i1 := hi r (List.mem_cons_of_mem _ hr)
      have i2 := hi x (List.mem_cons_self ..)
      have a1 : r.conn = x.conn := by omega
      have a2 : r.id = x.id := by omega
      simp [keyR, a1, a2]
  have := nodup_lt 24 _ hd fun x hx => by
    obtain ⟨r, hr, rfl⟩ := List.mem_map.1 hx
    obtain ⟨n, hn, e1⟩ := (h.okc r hr).1
    have i1 := hi r hr
    show r.conn.toNat * 6 + (r.id - 1).toNat < 24
    omega
  simpa using this

/-- In 150 rounds all is done. -/
theorem rounds_done (h : m.Sure a R Q) (hr : m.Ripe) (hi : ∀ r ∈ m.req, 1 ≤ r.id ∧ r.id ≤ 6) : (m.rounds 150).req = [] := by
  have hf := req_few h.law hi
  have h1 := rounds_many h hr 24
  obtain ⟨s1, r1, l1⟩ := rounds_good h hr (4 * 24)
  have e : m.rounds 150 = (m.rounds (4 * 24)).rounds 54 := rounds_add m 96 54
  obtain ⟨-, -, l2⟩ := rounds_good s1 r1 54
  rw [e]
  exact List.length_eq_zero_iff.1 (by omega)

end
end Go.Proofs.Ytlafkpaljibonaa

namespace Go.Proofs.Ytlafkpaljibonaa
open Go.RowKit

theorem byt_app (t u : ByteArray) (j : Nat) (h : j < t.size) : byt (t ++ u) j = byt t j := by
  rw [← byt_get t j h, ← byt_get (t ++ u) j (by rw [ByteArray.size_append]; omega)]
  rw [ByteArray.getElem_append_left h]

theorem heads_app (t u : ByteArray) (h : 8 ≤ (t.size : Int)) : hKind (t ++ u) = hKind t ∧ hId (t ++ u) = hId t ∧ hLen (t ++ u) = hLen t ∧ hPad (t ++ u) = hPad t ∧ badT (t ++ u) = badT t := by
  have b : ∀ j, j < 8 → byt (t ++ u) j = byt t j := fun j hj => byt_app t u j (by omega)
  refine ⟨b 1 (by omega), ?_, ?_, b 6 (by omega), ?_⟩
  · unfold hId; rw [b 2 (by omega), b 3 (by omega)]
  · unfold hLen; rw [b 4 (by omega), b 5 (by omega)]
  · rw [badT_eq, badT_eq, b 0 (by omega), b 1 (by omega), b 2 (by omega), b 3 (by omega), b 4 (by omega), b 5 (by omega), b 6 (by omega), b 7 (by omega)]

theorem stop_app (c : Bool) (t u : ByteArray) (h : 8 ≤ (t.size : Int)) : stopT c (t ++ u) = stopT c t := by
  obtain ⟨h1, -, h3, -, h5⟩ := heads_app t u h
  unfold stopT wrongT
  rw [h1, h3, h5]

theorem two_app {c : Bool} {t u : ByteArray} (h : rcode c t = 2) : rcode c (t ++ u) = 2 ∧ recT (t ++ u) = recT t ∧ sizeT (t ++ u) = sizeT t := by
  obtain ⟨-, -, hs, hl, h8⟩ := rcode_two h
  obtain ⟨h1, h2, h3, h4, -⟩ := heads_app t u h8
  have hd := hd_bd t
  refine ⟨?_, ?_, ?_⟩
  · unfold rcode
    rw [stop_app c t u h8, hs, h3, h4, ByteArray.size_append]
    rw [if_neg (by omega), if_neg (by simp), if_neg (by omega)]
  · unfold recT
    rw [h1, h2, h3]
    congr 2
    apply ByteArray.ext
    have : (8 + hLen t).toNat ≤ t.data.size := by
      have : t.data.size = t.size := rfl
      omega
    simp only [ByteArray.data_extract, ByteArray.data_append]
    rw [Array.extract_append, Nat.sub_eq_zero_of_le this]
    simp
  · unfold sizeT
    rw [h3, h4]

theorem extract_far (d : Array UInt8) (i j : Nat) (h : d.size ≤ j) : d.extract i j = d.extract i d.size := by
  apply Array.ext
  · simp only [Array.size_extract]; omega
  · intro k h1 h2; simp only [Array.getElem_extract]

theorem left_app (a s : ByteArray) {i : Nat} (h : i ≤ a.size) : left (a ++ s) i = left a i ++ s := by
  unfold left
  apply ByteArray.ext
  simp only [ByteArray.data_extract, ByteArray.data_append, ByteArray.size_append]
  rw [Array.extract_append]
  have e : a.data.size = a.size := rfl
  have e2 : s.data.size = s.size := rfl
  rw [e, show i - a.size = 0 from by omega, show a.size + s.size - a.size = s.size from by omega, ← e2, Array.extract_size]
  congr 1
  rw [e2, ← e]
  exact extract_far _ _ _ (by omega)

theorem left_left (s : ByteArray) (n t : Nat) : left (left s n) t = left s (n + t) := by
  unfold left
  apply ByteArray.ext
  simp only [ByteArray.data_extract, ByteArray.size_extract, Array.extract_extract]
  congr 1
  omega

theorem rdec_fuel (c : Bool) (s : ByteArray) : ∀ (f f' i : Nat), s.size - i < f → s.size - i < f' → rdec c f s i = rdec c f' s i
  | 0, _, _, h, _ => by omega
  | f + 1, f', i, h, h' => by
    obtain ⟨g, rfl⟩ : ∃ g, f' = g + 1 := ⟨f' - 1, by omega⟩
    rcases rcode_cases c (left s i) with e | e | e
    · rw [rdec_zero e, rdec_zero e]
    · rw [rdec_one e, rdec_one e]
    · obtain ⟨h1, h2, -⟩ := rcode_two e
      rw [left_size] at h2
      have := rdec_fuel c s f g (i + sizeT (left s i)) (by omega) (by omega)
      rw [rdec_two e, rdec_two e, this]

theorem rdec_app (c : Bool) (a s : ByteArray) : ∀ (f i : Nat), i ≤ a.size → a.size - i < f → (rdec c f a i).2.2 = false → ∀ F, (a ++ s).size - i < F →
    rdec c F (a ++ s) i = ((rdec c f a i).1 ++ (rdec c F (a ++ s) (rdec c f a i).2.1).1, (rdec c F (a ++ s) (rdec c f a i).2.1).2) ∧ i ≤ (rdec c f a i).2.1 ∧ (rdec c f a i).2.1 ≤ a.size
  | 0, _, _, h, _, _, _ => by omega
  | f + 1, i, hi, h, hb, F, hF => by
    rcases rcode_cases c (left a i) with e | e | e
    · rw [rdec_zero e]
      exact ⟨by simp, Nat.le_refl _, hi⟩
    · rw [rdec_one e] at hb; simp at hb
    · obtain ⟨h1, h2, -⟩ := rcode_two e
      rw [left_size] at h2
      obtain ⟨G, rfl⟩ : ∃ G, F = G + 1 := ⟨F - 1, by omega⟩
      have hl := left_app a s hi
      obtain ⟨t1, t2, t3⟩ := two_app (u := s) e
      rw [← hl] at t1 t2 t3
      rw [rdec_two e] at hb
      rw [ByteArray.size_append] at hF
      obtain ⟨ih1, ih2, ih3⟩ := rdec_app c a s f (i + sizeT (left a i)) (by omega) (by omega) hb G (by rw [ByteArray.size_append]; omega)
      rw [rdec_two e, rdec_two t1, t2, t3, ih1]
      refine ⟨?_, by simp only []; omega, by simp only []; exact ih3⟩
      simp only [List.cons_append]
      rw [rdec_fuel c (a ++ s) G (G + 1) _ (by rw [ByteArray.size_append]; omega) (by rw [ByteArray.size_append]; omega)]

theorem rdec_shift (c : Bool) (x : ByteArray) (n : Nat) : ∀ (f t : Nat), rdec c f x (n + t) = ((rdec c f (left x n) t).1, n + (rdec c f (left x n) t).2.1, (rdec c f (left x n) t).2.2)
  | 0, _ => rfl
  | f + 1, t => by
    rcases rcode_cases c (left x (n + t)) with e | e | e
    · have e' : rcode c (left (left x n) t) = 0 := by rw [left_left]; exact e
      rw [rdec_zero e, rdec_zero e']
    · have e' : rcode c (left (left x n) t) = 1 := by rw [left_left]; exact e
      rw [rdec_one e, rdec_one e']
    · have e' : rcode c (left (left x n) t) = 2 := by rw [left_left]; exact e
      rw [rdec_two e, rdec_two e', left_left, Nat.add_assoc, rdec_shift c x n f (t + sizeT (left x (n + t)))]

theorem rdec_shift0 (c : Bool) (x : ByteArray) (n f : Nat) : rdec c f x n = ((rdec c f (left x n) 0).1, n + (rdec c f (left x n) 0).2.1, (rdec c f (left x n) 0).2.2) := rdec_shift c x n f 0

theorem rd_parts (c : Bool) (s : ByteArray) : rdL c s = (rdec c (s.size + 1) s 0).1 ∧ rdN c s = (rdec c (s.size + 1) s 0).2.1 ∧ rdB c s = (rdec c (s.size + 1) s 0).2.2 := by
  unfold rdL rdN rdB
  exact ⟨rfl, rfl, rfl⟩

theorem read_raw (a s : ByteArray) (P : List Rec × Nat × Bool) (hP : rdec true (a.size + 1) a 0 = P) (hb : P.2.2 = false) (X : List Rec × Nat × Bool) (hX : rdec true ((left (a ++ s) P.2.1).size + 1) (left (a ++ s) P.2.1) 0 = X) :
    rdec true ((a ++ s).size + 1) (a ++ s) 0 = (P.1 ++ X.1, P.2.1 + X.2.1, X.2.2) ∧ P.2.1 ≤ a.size := by
  have h := rdec_app true a s (a.size + 1) 0 (Nat.zero_le _) (by omega) (by rw [hP]; exact hb) ((a ++ s).size + 1) (by omega)
  rw [hP] at h
  obtain ⟨h1, -, h3⟩ := h
  have hs := rdec_shift0 true (a ++ s) P.2.1 ((a ++ s).size + 1)
  have hfu := rdec_fuel true (left (a ++ s) P.2.1) ((a ++ s).size + 1) ((left (a ++ s) P.2.1).size + 1) 0 (by rw [left_size]; omega) (by omega)
  rw [hfu, hX] at hs
  rw [hs] at h1
  exact ⟨h1, h3⟩

/-- What was read is read again; what is new is read behind it. -/
theorem read_on (a s : ByteArray) (hb : rdB true a = false) :
    rdL true (a ++ s) = rdL true a ++ rdL true (left a (rdN true a) ++ s) ∧ rdN true (a ++ s) = rdN true a + rdN true (left a (rdN true a) ++ s) ∧ rdB true (a ++ s) = rdB true (left a (rdN true a) ++ s) ∧ rdN true a ≤ a.size := by
  obtain ⟨aL, aN, aB⟩ := rd_parts true a
  obtain ⟨P, hP⟩ : ∃ P, rdec true (a.size + 1) a 0 = P := ⟨_, rfl⟩
  rw [hP] at aL aN aB
  rw [aB] at hb
  obtain ⟨X, hX⟩ : ∃ X, rdec true ((left (a ++ s) P.2.1).size + 1) (left (a ++ s) P.2.1) 0 = X := ⟨_, rfl⟩
  obtain ⟨h1, h3⟩ := read_raw a s P hP hb X hX
  have e : left a P.2.1 ++ s = left (a ++ s) P.2.1 := (left_app a s h3).symm
  obtain ⟨fL, fN, fB⟩ := rd_parts true (a ++ s)
  obtain ⟨gL, gN, gB⟩ := rd_parts true (left (a ++ s) P.2.1)
  rw [h1] at fL fN fB
  rw [hX] at gL gN gB
  rw [aL, aN, e, fL, fN, fB, gL, gN, gB]
  exact ⟨rfl, rfl, rfl, h3⟩

theorem two_kind {t : ByteArray} (h : rcode true t = 2) : ((recT t).1 = 1 ∨ (recT t).1 = 2 ∨ (recT t).1 = 5) ∧ (recT t).2.2.size ≤ 100000 := by
  obtain ⟨-, -, hs, -⟩ := rcode_two h
  have hd := hd_bd t
  constructor
  · simp only [stopT, Bool.or_eq_false_iff, Bool.true_and] at hs
    have hw := hs.2
    unfold wrongT wrongB at hw
    show hKind t = 1 ∨ hKind t = 2 ∨ hKind t = 5
    by_cases h1 : hKind t = 1
    · exact .inl h1
    · by_cases h2 : hKind t = 2
      · exact .inr (.inl h2)
      · rw [if_neg h1, if_neg h2] at hw
        exact .inr (.inr (by simpa using hw))
  · show (t.extract 8 (8 + hLen t).toNat).size ≤ _
    rw [ByteArray.size_extract]
    omega

theorem rdec_recs (s : ByteArray) : ∀ (f i : Nat), (∀ r ∈ (rdec true f s i).1, (r.1 = 1 ∨ r.1 = 2 ∨ r.1 = 5) ∧ r.2.2.size ≤ 100000) ∧ (rdec true f s i).1.length ≤ s.size - i
  | 0, _ => ⟨by intro r hr; simp [rdec] at hr, by simp [rdec]⟩
  | f + 1, i => by
    rcases rcode_cases true (left s i) with e | e | e
    · rw [rdec_zero e]; exact ⟨by intro r hr; simp at hr, by simp⟩
    · rw [rdec_one e]; exact ⟨by intro r hr; simp at hr, by simp⟩
    · obtain ⟨h1, h2, -⟩ := rcode_two e
      rw [left_size] at h2
      obtain ⟨i1, i2⟩ := rdec_recs s f (i + sizeT (left s i))
      rw [rdec_two e]
      refine ⟨?_, ?_⟩
      · intro r hr
        rcases List.mem_cons.1 hr with x | x
        · rw [x]; exact two_kind e
        · exact i1 r x
      · simp only [List.length_cons]; omega

end Go.Proofs.Ytlafkpaljibonaa
