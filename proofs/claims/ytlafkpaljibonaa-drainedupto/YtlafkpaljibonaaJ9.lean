import Derived.Test.YtlafkpaljibonaaJ8
import Derived.Laws.StructEq
namespace Go.Proofs.Ytlafkpaljibonaa
open Go.RowKit

def okC (c : Int) : Prop := ∃ n : Nat, n < 4 ∧ c = n

/-- Each slot's connection is none or one that there is; so is each request's. -/
structure PM.Near (m : PM) : Prop where
  fair : ∀ k, k < 6 → m.fair k
  reqs : ∀ r ∈ m.req, okC r.conn

section
variable {m m' : PM}

theorem PM.Near.of (h : m.Near) (hs : ∀ k, k < 6 → (m'.slot k).conn = -1 ∨ (m'.slot k).conn = (m.slot k).conn) (hr : ∀ r ∈ m'.req, r ∈ m.req ∨ okC r.conn) : m'.Near := by
  refine ⟨fun k hk => ?_, fun r hm => ?_⟩
  · rcases hs k hk with e | e
    · exact .inl e
    · have := h.fair k hk
      unfold PM.fair at *
      rw [e]; exact this
  · rcases hr r hm with e | e
    · exact h.reqs r e
    · exact e

theorem PM.Near.same (h : m.Near) (hs : m'.slot = m.slot) (hr : m'.req = m.req) : m'.Near :=
  h.of (fun k _ => .inr (by rw [hs])) (fun r hm => .inl (by rw [← hr]; exact hm))

theorem PM.Near.drop (h : m.Near) (c i : Int) : (m.drop c i).Near := by
  refine ⟨PM.fair_drop h.fair c i, ?_⟩
  rw [drop_req]
  intro r hr
  exact h.reqs r (List.mem_filter.1 hr).1

theorem PM.Near.sendB (h : m.Near) (k : Nat) (s : ByteArray) : (m.sendB k s).Near := h.same rfl rfl
theorem PM.Near.endKey (h : m.Near) (k : Nat) (i st : Int) : (m.endKey k i st).Near := (h.sendB k _).drop _ _
theorem PM.Near.endKeyOf (h : m.Near) (k : Nat) (st : Int) : (m.endKeyOf k st).Near := by
  unfold PM.endKeyOf
  cases ((m.slot k).conn != -1)
  · exact h
  · exact h.endKey _ _ _
theorem PM.Near.becomesAt (h : m.Near) (k : Nat) (st : Int) : (m.becomesAt k st).Near := by
  refine h.of (fun j _ => ?_) (fun r hr => .inl hr)
  by_cases e : j = k
  · subst e; left; simp [PM.becomesAt, PSlot.becomes]
  · right; simp [PM.becomesAt, upd_other _ _ e]
theorem PM.Near.kill (h : m.Near) (k : Nat) : (m.kill k).Near := h.becomesAt k 4
theorem PM.Near.killAt (h : m.Near) (x : Option Nat) : (m.killAt x).Near := by
  cases x
  · exact h
  · exact h.kill _
theorem PM.Near.newAt (h : m.Near) (k : Nat) (st : Int) : ({ m with slot := upd m.slot k (newSlot st) } : PM).Near := by
  refine h.of (fun j _ => ?_) (fun r hr => .inl hr)
  by_cases e : j = k
  · subst e; left; simp [newSlot]
  · right; simp [upd_other _ _ e]
theorem PM.Near.startTo (h : m.Near) (u : Int) : ∀ k, (startTo m u k).1.Near
  | 0 => h
  | k + 1 => by
    have ih := PM.Near.startTo h u k
    rw [startTo_succ]
    cases (decide ((Go.Proofs.Ytlafkpaljibonaa.startTo m u k).2 < m.set.ch) && ((Go.Proofs.Ytlafkpaljibonaa.startTo m u k).1.slot k).st == 0)
    · exact ih
    · exact ih.newAt k 1
theorem PM.Near.leaseAt (h : m.Near) (k : Nat) : (m.leaseAt k).Near := by
  unfold PM.leaseAt
  cases hf : m.fw with
  | none => exact h
  | some a =>
    have ha : a < m.req.length := by have := firstW_lt _ _ _ hf; omega
    have hg : m.req.getD a noReq = m.req[a] := by simp [List.getD, List.getElem?_eq_getElem ha]
    have hc := h.reqs _ (List.getElem_mem ha)
    simp only [hg]
    cases ((m.slot k).st == 2)
    · exact h
    · simp only [cond_true]
      refine ⟨fun j hj => ?_, fun r hr => ?_⟩
      · unfold PM.fair PM.lease
        by_cases e : j = k
        · subst e
          right
          obtain ⟨n, hn, e⟩ := hc
          exact ⟨n, hn, by simpa using e⟩
        · simp only [upd_other _ _ e]; exact h.fair j hj
      · rcases List.mem_or_eq_of_mem_set hr with e | rfl
        · exact h.reqs r e
        · exact hc
theorem PM.Near.leaseTo (h : m.Near) : ∀ k, (m.leaseTo k).Near
  | 0 => h
  | k + 1 => (PM.Near.leaseTo h k).leaseAt k
theorem PM.Near.settle (h : m.Near) : m.settle.Near := by
  unfold PM.settle PM.leaseWaiting
  refine PM.Near.leaseTo ?_ 6
  cases m.set.dyn
  · exact h.startTo _ 6
  · exact h
theorem PM.Near.withReq' (h : m.Near) (l : List Req) (hl : ∀ r ∈ l, r ∈ m.req ∨ okC r.conn) : ({ m with req := l } : PM).Near := h.of (fun _ _ => .inr rfl) hl
theorem PM.Near.begin_ (h : m.Near) {k : Nat} (hk : k < 4) (i : Int) (role : ByteArray) : (m.begin_ k i role).Near := by
  unfold PM.begin_
  cases (role.toList == [1])
  · exact h.endKey _ _ _
  · cases decide ((m.keysOf k).length ≥ 4)
    · refine h.withReq' _ fun r hr => ?_
      rcases List.mem_append.1 hr with e | e
      · exact .inl e
      · right
        rw [List.mem_singleton.1 e]
        exact ⟨k, hk, rfl⟩
    · exact h.endKey _ _ _
theorem PM.Near.enqueue (h : m.Near) {k : Nat} (hk : k < 4) (i : Int) (body : ByteArray) : (m.enqueue k i body).Near := by
  unfold PM.enqueue
  cases m.room
  · exact h.endKey _ _ _
  · refine h.withReq' _ fun r hr => ?_
    rcases List.mem_append.1 hr with e | e
    · exact .inl (List.mem_filter.1 e).1
    · right
      rw [List.mem_singleton.1 e]
      exact ⟨k, hk, rfl⟩
theorem PM.Near.in_ (h : m.Near) {k : Nat} (hk : k < 4) (i : Int) (c : ByteArray) : (m.in_ k i c).Near := by
  unfold PM.in_
  cases hf : m.find k i with
  | none => exact h
  | some a =>
    obtain ⟨hal, -, -⟩ := m.find_some k i a hf
    have hgd : m.req.getD a noReq = m.req[a] := by simp [List.getD, List.getElem?_eq_getElem hal]
    simp only [hgd]
    unfold PM.inAt
    cases (m.req[a].stage == 0)
    · exact h
    · cases (c.toList == [])
      · cases decide (500 < (m.req[a].body ++ c).size)
        · refine h.withReq' _ fun r hr => ?_
          rcases List.mem_or_eq_of_mem_set hr with e | rfl
          · exact .inl e
          · exact .inr (h.reqs m.req[a] (List.getElem_mem hal))
        · exact h.endKey _ _ _
      · exact h.enqueue hk _ _
theorem PM.Near.abort (h : m.Near) (k : Nat) (i : Int) : (m.abort k i).Near := by
  unfold PM.abort
  cases m.find k i with
  | none => exact h
  | some a => exact (h.killAt _).endKey _ _ _
theorem PM.Near.take (h : m.Near) {k : Nat} (hk : k < 4) (r : Rec) : (m.take k r).Near := by
  unfold PM.take
  split
  · exact h.begin_ hk _ _
  · split
    · exact h.in_ hk _ _
    · split
      · exact h.abort _ _
      · exact h
theorem PM.Near.dropAll (l : List (Int × Int)) : ∀ {m : PM}, m.Near → (m.dropAll l).Near := by
  induction l with
  | nil => intro m h; exact h
  | cons x l ih => intro m h; exact ih (h.drop x.1 x.2)
theorem PM.Near.close (h : m.Near) (k : Nat) : (m.close k).Near := PM.Near.dropAll _ (m := m.shut k) (h.same rfl rfl)
theorem PM.Near.takeAll {k : Nat} (hk : k < 4) (all : ByteArray) : ∀ (f : Nat) {m : PM} (t : Nat), m.Near → (PM.takeAll k all f m t).Near
  | 0, m, t, h => PM.Near.same (m := m) h rfl rfl
  | f + 1, m, t, h => by
    unfold PM.takeAll
    split
    · exact PM.Near.same (m := m) h rfl rfl
    · split
      · exact h.close k
      · cases m.again k (recT (left all t)).2.1 (recT (left all t)).1
        · exact PM.Near.takeAll hk all f _ (h.take hk _).settle
        · exact h.close k
theorem PM.Near.outN (c : Nat) (i : Int) : ∀ (f : Nat) {m : PM} (t : ByteArray), m.Near → (PM.outN c i f m t).Near
  | 0, _, _, h => h
  | f + 1, m, t, h => by
    unfold PM.outN
    split
    · exact h
    · exact PM.Near.outN c i f _ (h.sendB _ _)
theorem PM.Near.lateTo (h : m.Near) : ∀ k, (m.lateTo k).Near
  | 0 => h
  | k + 1 => by
    have ih := PM.Near.lateTo h k
    have e : m.lateTo (k + 1) = cond ((m.lateTo k).lateAt k) (((m.lateTo k).endKeyOf k 6).kill k) (m.lateTo k) := rfl
    rw [e]
    cases (m.lateTo k).lateAt k
    · exact ih
    · exact (ih.endKeyOf k 6).kill k
theorem PM.Near.startOne (h : m.Near) : m.startOne.Near := by
  unfold PM.startOne
  cases m.emptyTo 6
  · exact h
  · exact h.newAt _ 1
theorem PM.Near.tick (h : m.Near) : m.tick.Near := by
  have h1 : m.ticked.Near := h.same rfl rfl
  have h2 : m.ticked.late.Near := by
    unfold PM.late
    cases decide (0 < m.ticked.set.tmo)
    · exact h1
    · exact h1.lateTo 6
  refine PM.Near.settle ?_
  unfold PM.tickS
  cases m.set.dyn
  · exact h2
  · simp only [cond_true]
    unfold PM.spares
    cases (decide (m.ticked.late.freshTo 6 < m.ticked.late.set.mn) && decide (m.ticked.late.usedTo 6 < m.ticked.late.set.ch))
    · cases decide (m.ticked.late.set.mx < m.ticked.late.inTo 2 6)
      · exact h2
      · exact h2.killAt _
    · exact h2.startOne
theorem PM.Near.oldAt (h : m.Near) (k : Nat) : (m.oldAt k).Near := by
  refine h.of (fun j _ => ?_) (fun r hr => .inl hr)
  by_cases e : j = k
  · subst e; right; simp [PM.oldAt]
  · right; simp [PM.oldAt, upd_other _ _ e]
theorem PM.Near.agesTo (h : m.Near) : ∀ k, (m.agesTo k).Near
  | 0 => h
  | k + 1 => by
    have ih := PM.Near.agesTo h k
    have e : m.agesTo (k + 1) = (m.agesTo k).agesAt k := rfl
    rw [e]
    unfold PM.agesAt
    cases (((m.agesTo k).slot k).st == 2)
    · cases (((m.agesTo k).slot k).st == 1 || ((m.agesTo k).slot k).st == 3)
      · exact ih
      · exact ih.oldAt k
    · exact ih.kill k
theorem PM.Near.reload (h : m.Near) (c : Cfg) : (m.reload c).Near := (PM.Near.agesTo (m := m.withSet c) (h.same rfl rfl) 6).settle
end

section
variable {m m' : PM} {R S B : Nat}

theorem dropAll_req (l : List (Int × Int)) : ∀ (m : PM), ∀ r ∈ (m.dropAll l).req, r ∈ m.req := by
  induction l with
  | nil => intro m r hr; exact hr
  | cons x l ih =>
    intro m r hr
    have := ih (m.drop x.1 x.2) r hr
    rw [drop_req] at this
    exact (List.mem_filter.1 this).1

theorem PM.small.close (h : m.small R S) (k : Nat) : (m.close k).small R S := by
  refine ⟨?_, ?_, ?_⟩
  · exact Nat.le_trans (dropAll_len _ _) h.req
  · intro j hj
    rw [close_con]
    split
    · rename_i e; subst e; exact h.sent j hj
    · exact h.sent j hj
  · intro r hr
    exact h.body r (dropAll_req (m.keysOf k) (m.shut k) r hr)

theorem PM.small.setRest (h : m.small R S) (k : Nat) (s : ByteArray) : (m.setRest k s).small R S := by
  refine ⟨h.req, ?_, h.body⟩
  intro j hj
  have := h.sent j hj
  simp only [PM.setRest, upd]
  split
  · rename_i e; rw [← e]; exact this
  · exact this

theorem take_size (all : ByteArray) {t : Nat} (h : rcode true (left all t) = 2) : t + 8 ≤ t + sizeT (left all t) ∧ t + sizeT (left all t) ≤ all.size := by
  obtain ⟨h1, h2, -, -, h8⟩ := rcode_two h
  rw [left_size] at h2
  omega

theorem PM.small.takeAll (k : Nat) (all : ByteArray) : ∀ (f : Nat) {m : PM} {R S : Nat} (t : Nat), t ≤ all.size → m.small R S → (PM.takeAll k all f m t).small (R + (all.size - t)) (S + 208 * (all.size - t))
  | 0, m, R, S, t, ht, h => (h.setRest k _).mono (by omega) (by omega)
  | f + 1, m, R, S, t, ht, h => by
    unfold PM.takeAll
    rcases rcode_cases true (left all t) with e | e | e
    · rw [if_pos e]; exact (h.setRest k _).mono (by omega) (by omega)
    · rw [if_neg (by omega), if_pos e]; exact (h.close k).mono (by omega) (by omega)
    · rw [if_neg (by omega), if_neg (by omega)]
      obtain ⟨z1, z2⟩ := take_size all e
      cases m.again k (recT (left all t)).2.1 (recT (left all t)).1
      · exact (PM.small.takeAll k all f _ z2 (h.take k _).settle).mono (by omega) (by omega)
      · exact (h.close k).mono (by omega) (by omega)

end
end Go.Proofs.Ytlafkpaljibonaa

namespace Go.Proofs.Ytlafkpaljibonaa
open Go.RowKit

theorem rest_small {t : ByteArray} (h : rcode true t = 0) : t.size ≤ 300 := by
  unfold rcode at h
  split at h
  · omega
  · split at h
    · cases h
    · rename_i h1 h2
      split at h
      · rename_i h3
        have hb : badT t = false := by
          cases hb : badT t
          · rfl
          · exfalso; apply h2; simp [stopT, hb]
        unfold badT badB at hb
        simp only [Bool.or_eq_false_iff, decide_eq_false_iff_not, bne_eq_false_iff_eq] at hb
        obtain ⟨⟨⟨-, hp⟩, -⟩, ha⟩ := hb
        have ha' : allowedB (hKind t) (hId t) (hLen t) = true := by simpa using ha
        simp only [allowedB, Bool.and_eq_true, decide_eq_true_eq] at ha'
        omega
      · cases h

section
variable {m m' : PM} {B R S : Nat}

/-- All that the walks ask of a foreman's state. -/
structure PM.Fit (m : PM) (B : Nat) : Prop where
  near : m.Near
  small : m.small B (208 * B)
  rest : ∀ k, k < 4 → (m.con k).rest.size ≤ 300

theorem PM.Fit.mono (h : m.Fit B) {B' : Nat} (hb : B ≤ B') : m.Fit B' := ⟨h.near, h.small.mono hb (by omega), h.rest⟩
theorem PM.Fit.of (h : m.Fit B) {B' : Nat} (hn : m'.Near) (hs : m'.small B' (208 * B')) (hc : ConSame m m') : m'.Fit B' := ⟨hn, hs, fun k hk => by rw [(hc k).2]; exact h.rest k hk⟩

theorem PM.Fit.close (h : m.Fit B) (k : Nat) : (m.close k).Fit B := by
  refine ⟨h.near.close k, h.small.close k, fun j hj => ?_⟩
  rw [close_con]
  split
  · exact Nat.zero_le _
  · exact h.rest j hj

theorem rest_takeAll (k : Nat) (all : ByteArray) : ∀ (f : Nat) {m : PM} (t : Nat), t ≤ all.size → all.size - t < f → (∀ j, j < 4 → (m.con j).rest.size ≤ 300) → ∀ j, j < 4 → ((PM.takeAll k all f m t).con j).rest.size ≤ 300
  | 0, _, _, _, h, _ => by omega
  | f + 1, m, t, ht, hf, h => by
    have hcl : ∀ j, j < 4 → ((m.close k).con j).rest.size ≤ 300 := by
      intro j hj
      rw [close_con]
      split
      · exact Nat.zero_le _
      · exact h j hj
    unfold PM.takeAll
    rcases rcode_cases true (left all t) with e | e | e
    · rw [if_pos e]
      intro j hj
      simp only [PM.setRest, upd]
      split
      · exact rest_small e
      · exact h j hj
    · rw [if_neg (by omega), if_pos e]; exact hcl
    · rw [if_neg (by omega), if_neg (by omega)]
      obtain ⟨z1, z2⟩ := take_size all e
      cases m.again k (recT (left all t)).2.1 (recT (left all t)).1
      · refine rest_takeAll k all f _ z2 (by omega) fun j hj => ?_
        rw [(((ConSame.take m k _).trans (ConSame.settle _)) j).2]
        exact h j hj
      · exact hcl

theorem PM.Fit.feed (h : m.Fit B) {k : Nat} (hk : k < 4) (s : ByteArray) : (m.feed k s).Fit (B + s.size + 300) := by
  have hr := h.rest k hk
  have hsz : ((m.con k).rest ++ s).size ≤ s.size + 300 := by rw [ByteArray.size_append]; omega
  refine ⟨PM.Near.takeAll hk _ _ _ h.near, ?_, rest_takeAll k _ _ 0 (Nat.zero_le _) (by omega) h.rest⟩
  exact (PM.small.takeAll k _ _ 0 (Nat.zero_le _) h.small).mono (by omega) (by omega)

theorem PM.Fit.settle (h : m.Fit B) : m.settle.Fit B := h.of h.near.settle h.small.settle (ConSame.settle m)
theorem PM.Fit.same (h : m.Fit B) (hs : m'.slot = m.slot) (hr : m'.req = m.req) (hc : m'.con = m.con) : m'.Fit B := h.of (h.near.same hs hr) (h.small.of_eq hr hc) (ConSame.of_eq hc)
theorem PM.Fit.becomesAt (h : m.Fit B) (k : Nat) (st : Int) : (m.becomesAt k st).Fit B := h.of (h.near.becomesAt k st) (h.small.of_eq rfl rfl) (ConSame.refl _)
theorem PM.Fit.kill (h : m.Fit B) (k : Nat) : (m.kill k).Fit B := h.becomesAt k 4
theorem PM.Fit.newAt (h : m.Fit B) (k : Nat) (st : Int) : ({ m with slot := upd m.slot k (newSlot st) } : PM).Fit B := h.of (h.near.newAt k st) (h.small.of_eq rfl rfl) (ConSame.refl _)
theorem PM.Fit.endKeyOf (h : m.Fit B) (k : Nat) (st : Int) : (m.endKeyOf k st).Fit (B + 1) := h.of (h.near.endKeyOf k st) ((h.small.endKeyOf k st).mono (by omega) (by omega)) (ConSame.endKeyOf m k st)

theorem PM.small.outN (c : Nat) (i : Int) : ∀ (f : Nat) {m : PM} {R S : Nat} (t : ByteArray), m.small R S → (PM.outN c i f m t).small R (S + 208 * f)
  | 0, _, _, _, _, h => h
  | f + 1, m, R, S, t, h => by
    unfold PM.outN
    split
    · exact h.mono (by omega) (by omega)
    · exact (PM.small.outN c i f _ (h.sendB _ _ (encB_size _ _ _))).mono (by omega) (by omega)

theorem PM.Fit.connect (h : m.Fit B) (k : Nat) : (m.connect k).Fit B := by
  refine ⟨h.near.same rfl rfl, ⟨h.small.req, ?_, h.small.body⟩, ?_⟩
  · intro j hj
    simp only [PM.connect, upd]
    split
    · exact Nat.zero_le _
    · exact h.small.sent j hj
  · intro j hj
    simp only [PM.connect, upd]
    split
    · exact Nat.zero_le _
    · exact h.rest j hj

theorem PM.Fit.afterConnect (h : m.Fit B) (n : Int) : (m.afterConnect n).Fit B := by
  unfold PM.afterConnect
  cases (isC n && !(m.con n.toNat).op)
  · exact h
  · exact h.connect _
theorem PM.Fit.afterHangup (h : m.Fit B) (n : Int) : (m.afterHangup n).Fit B := by
  unfold PM.afterHangup
  cases (m.chk n == 0)
  · exact h
  · exact h.close _
theorem PM.Fit.afterFeed (h : m.Fit B) (n : Int) (s : ByteArray) : (m.afterFeed n s).Fit (B + s.size + 300) := by
  unfold PM.afterFeed
  by_cases e : m.chk n = 0
  · have : ∃ k : Nat, k < 4 ∧ n = k := by
      rcases isC_cases n with h0 | ⟨h0, k, hk, e'⟩
      · simp [PM.chk, h0] at e
      · exact ⟨k, hk, e'⟩
    obtain ⟨k, hk, rfl⟩ := this
    rw [e]
    exact h.feed hk s
  · have e' : (m.chk n == 0) = false := by simpa using e
    rw [e']
    exact h.mono (by omega)
theorem PM.Fit.afterSpawned (h : m.Fit B) (n : Int) : (m.afterSpawned n).Fit B := by
  unfold PM.afterSpawned PM.spawned
  cases (m.stE n 1 == 0)
  · exact h
  · refine PM.Fit.settle ?_
    cases (m.slot n.toNat).old
    · exact h.becomesAt _ 2
    · exact h.kill _
theorem PM.Fit.afterOutput (h : m.Fit B) (n : Int) (s : ByteArray) : (m.afterOutput n s).Fit (B + s.size + 300) := by
  unfold PM.afterOutput PM.outputs
  cases (m.stE n 3 == 0)
  · exact h.mono (by omega)
  · refine PM.Fit.settle ?_
    cases ((m.slot n.toNat).conn != -1)
    · exact h.mono (by omega)
    · unfold PM.sendOut
      exact h.of (PM.Near.outN _ _ _ _ h.near) ((PM.small.outN _ _ _ _ h.small).mono (by omega) (by omega)) (ConSame.outN _ _ _ _ _)
theorem PM.Fit.afterFinished (h : m.Fit B) (n : Int) : (m.afterFinished n).Fit (B + 1) := by
  unfold PM.afterFinished PM.finished
  cases (m.stE n 3 == 0)
  · exact h.mono (by omega)
  · refine PM.Fit.settle ?_
    unfold PM.retires
    cases ((m.endKeyOf n.toNat 0).mustGo n.toNat)
    · exact (h.endKeyOf _ 0).becomesAt _ 2
    · exact (h.endKeyOf _ 0).kill _
theorem PM.Fit.afterDied (h : m.Fit B) (n : Int) : (m.afterDied n).Fit (B + 1) := by
  unfold PM.afterDied PM.died
  cases (m.diedE n == 0)
  · exact h.mono (by omega)
  · exact PM.Fit.settle ((h.endKeyOf _ 1).newAt _ 0)
theorem PM.Fit.tick (h : m.Fit B) : m.tick.Fit (B + 6) := by
  refine h.of h.near.tick ?_ ((ConSame.tickS m).trans (ConSame.settle _))
  have h1 : m.ticked.small B (208 * B) := h.small.of_eq rfl rfl
  have h2 : m.ticked.late.small (B + 6) (208 * (B + 6)) := by
    unfold PM.late
    cases decide (0 < m.ticked.set.tmo)
    · exact h1.mono (by omega) (by omega)
    · exact (PM.lateTo_kept h1 h.near.fair 6).2.1.mono (by omega) (by omega)
  refine PM.small.settle ?_
  unfold PM.tickS
  cases m.set.dyn
  · exact h2
  · simp only [cond_true]
    unfold PM.spares
    cases (decide (m.ticked.late.freshTo 6 < m.ticked.late.set.mn) && decide (m.ticked.late.usedTo 6 < m.ticked.late.set.ch))
    · cases decide (m.ticked.late.set.mx < m.ticked.late.inTo 2 6)
      · exact h2
      · have hk := killAt_same m.ticked.late (m.ticked.late.lastTo 6)
        exact h2.of_eq hk.2 hk.1
    · simp only [cond_true]
      unfold PM.startOne
      cases m.ticked.late.emptyTo 6
      · exact h2
      · exact h2.of_eq rfl rfl
theorem agesTo_same (m : PM) : ∀ k, (m.agesTo k).req = m.req ∧ (m.agesTo k).con = m.con
  | 0 => ⟨rfl, rfl⟩
  | k + 1 => by
    have ih := agesTo_same m k
    have e : m.agesTo (k + 1) = (m.agesTo k).agesAt k := rfl
    rw [e]
    unfold PM.agesAt
    cases (((m.agesTo k).slot k).st == 2)
    · cases (((m.agesTo k).slot k).st == 1 || ((m.agesTo k).slot k).st == 3) <;> exact ih
    · exact ih
theorem PM.Fit.afterReload (h : m.Fit B) (c : Cfg) : (m.afterReload c).Fit B := by
  unfold PM.afterReload
  cases c.ok
  · exact h
  · refine h.of (h.near.reload c) ?_ (((ConSame.refl (m.withSet c)).trans (ConSame.agesTo (m.withSet c) 6)).trans (ConSame.settle _))
    obtain ⟨e1, e2⟩ := agesTo_same (m.withSet c) 6
    exact PM.small.settle (PM.small.of_eq (m := m.withSet c) (h.small.of_eq rfl rfl) e1 e2)

end

def KSt.ki (x : KSt) : Int := pickI x.kind 9
def KSt.cn (x : KSt) : Int := pickI x.a 4
def KSt.sn (x : KSt) : Int := pickI x.a 6

/-- What a raw step does, and what it answers. -/
def PM.doM (m : PM) (x : KSt) : PM :=
  if x.ki = 0 then m.afterConnect x.cn else if x.ki = 1 then m.afterHangup x.cn else if x.ki = 2 then m.afterFeed x.cn x.recB
  else if x.ki = 3 then m.afterSpawned x.sn else if x.ki = 4 then m.afterOutput x.sn x.s else if x.ki = 5 then m.afterFinished x.sn
  else if x.ki = 6 then m.afterDied x.sn else if x.ki = 7 then m.tick else m.afterReload (setC x.set)
def PM.doE (m : PM) (x : KSt) : Int :=
  if x.ki = 0 then m.connectE x.cn else if x.ki = 1 then m.chk x.cn else if x.ki = 2 then m.chk x.cn
  else if x.ki = 3 then m.stE x.sn 1 else if x.ki = 4 then m.stE x.sn 3 else if x.ki = 5 then m.stE x.sn 3
  else if x.ki = 6 then m.diedE x.sn else if x.ki = 7 then 0 else reloadC (setC x.set)

theorem recB_size (x : KSt) : x.recB.size ≤ 215 := by
  have p2 := pickI_bd (x.c.tdiv 6) 8 (by omega)
  have hs := shortB_le x.s 200
  have hc : x.rc.size ≤ 200 := by
    unfold KSt.rc
    split
    · decide
    · split
      · exact hs
      · decide
  unfold KSt.recB
  rw [enc_size, padL_length]
  have : x.pad ≤ 7 := by unfold KSt.pad; omega
  omega

theorem PM.Fit.doM {m : PM} {B : Nat} (h : m.Fit B) (x : KSt) : (m.doM x).Fit (B + x.s.size + 520) := by
  have hr := recB_size x
  unfold PM.doM
  split
  · exact (h.afterConnect _).mono (by omega)
  split
  · exact (h.afterHangup _).mono (by omega)
  split
  · exact (h.afterFeed _ _).mono (by omega)
  split
  · exact (h.afterSpawned _).mono (by omega)
  split
  · exact (h.afterOutput _ _).mono (by omega)
  split
  · exact (h.afterFinished _).mono (by omega)
  split
  · exact (h.afterDied _).mono (by omega)
  split
  · exact h.tick.mono (by omega)
  · exact (h.afterReload _).mono (by omega)

end Go.Proofs.Ytlafkpaljibonaa

namespace Go.Proofs.Ytlafkpaljibonaa
open Go.RowKit

section
variable {o : Nat → Tag} {q B : Nat} {w : World} {b : Nat} {m : PM} {sv : Nat → Value} {rv : Value}

/-- What an event leaves. -/
def Left (o : Nat → Tag) (q : Nat) (w : World) (b : Nat) (m' : PM) (w' : World) : Prop := ∃ o' sv' rv', FMem o' q w' b m' sv' rv' ∧ Fr q o w o' w'

theorem Left.from {w1 w2 : World} {m' : PM} (hc : Clean o w) (hb : Below w.heap.size w w1) (h : Left o q w1 b m' w2) : Left o q w b m' w2 := by
  obtain ⟨o', sv', rv', h1, h2⟩ := h
  exact ⟨o', sv', rv', h1, (Fr.of_below hc hb).trans h2⟩

theorem connect_left (h : FMem o q w b m sv rv) (n : Int) :
    Calls Try.prog 24 #[.pointer (some ⟨b, 0, none⟩), .int .i64 n] w fun r w' => r = .returned (.int .i64 (m.connectE n)) ∧ Left o q w b (m.afterConnect n) w' := by
  refine (connect_any h n).mono ?_
  rintro r w' ⟨e, sv', h1, h2⟩
  exact ⟨e, o, sv', rv, h1, h2⟩
theorem hangup_left (h : FMem o q w b m sv rv) (hq : q ≠ 0) (hf : m.Fit B) (hB : B ≤ 48000000) (n : Int) :
    Calls Try.prog 50 #[.pointer (some ⟨b, 0, none⟩), .int .i64 n] w fun r w' => r = .returned (.int .i64 (m.chk n)) ∧ Left o q w b (m.afterHangup n) w' := by
  refine (hangup_any h hq n (by have := hf.small.req; omega)).mono ?_
  rintro r w' ⟨e, o', rv', h1, h2⟩
  exact ⟨e, o', sv, rv', h1, h2⟩
theorem feed_left (h : FMem o q w b m sv rv) (hq : q ≠ 0) (hf : m.Fit B) (hB : B ≤ 48000000) (n : Int) (s : ByteArray) (hs : s.size ≤ 100000000) :
    Calls Try.prog 25 #[.pointer (some ⟨b, 0, none⟩), .int .i64 n, .string s] w fun r w' => r = .returned (.int .i64 (m.chk n)) ∧ Left o q w b (m.afterFeed n s) w' :=
  feed_any h hq n s hs (fun k hk => Nat.le_trans (hf.rest k hk) (by omega)) hf.small (by omega) (by omega)
theorem spawned_left (h : FMem o q w b m sv rv) (n : Int) :
    Calls Try.prog 34 #[.pointer (some ⟨b, 0, none⟩), .int .i64 n] w fun r w' => r = .returned (.int .i64 (m.stE n 1)) ∧ Left o q w b (m.afterSpawned n) w' := by
  refine (spawned_any h n).mono ?_
  rintro r w' ⟨e, h1, h2⟩
  exact ⟨e, o, sv, rv, h1, h2⟩
theorem output_left (h : FMem o q w b m sv rv) (hq : q ≠ 0) (hf : m.Fit B) (hB : B ≤ 48000000) (n : Int) (s : ByteArray) (hs : s.size ≤ 100000000) :
    Calls Try.prog 52 #[.pointer (some ⟨b, 0, none⟩), .int .i64 n, .string s] w fun r w' => r = .returned (.int .i64 (m.stE n 3)) ∧ Left o q w b (m.afterOutput n s) w' := by
  refine (output_any h hq n s (by omega) (S := 208 * B) (by omega) hf.small.sent hf.near.fair).mono ?_
  rintro r w' ⟨e, o', sv', h1, h2⟩
  exact ⟨e, o', sv', rv, h1, h2⟩
theorem finished_left (h : FMem o q w b m sv rv) (hq : q ≠ 0) (hf : m.Fit B) (hB : B ≤ 48000000) (n : Int) :
    Calls Try.prog 53 #[.pointer (some ⟨b, 0, none⟩), .int .i64 n] w fun r w' => r = .returned (.int .i64 (m.stE n 3)) ∧ Left o q w b (m.afterFinished n) w' :=
  finished_any h hq n (fun c hc => by have := hf.small.sent c hc; omega) (by have := hf.small.req; omega) hf.near.fair
theorem died_left (h : FMem o q w b m sv rv) (hq : q ≠ 0) (hf : m.Fit B) (hB : B ≤ 48000000) (n : Int) :
    Calls Try.prog 54 #[.pointer (some ⟨b, 0, none⟩), .int .i64 n] w fun r w' => r = .returned (.int .i64 (m.diedE n)) ∧ Left o q w b (m.afterDied n) w' :=
  died_any h hq n (fun c hc => by have := hf.small.sent c hc; omega) (by have := hf.small.req; omega) hf.near.fair
theorem tick_left (h : FMem o q w b m sv rv) (hq : q ≠ 0) (hf : m.Fit B) (hB : B ≤ 48000000) :
    Calls Try.prog 33 #[.pointer (some ⟨b, 0, none⟩)] w fun r w' => r = .returned (.tuple #[]) ∧ Left o q w b m.tick w' :=
  tick_any h hq hf.small (by omega) (by omega) hf.near.fair
theorem reload_left (h : FMem o q w b m sv rv) (c : Cfg) :
    Calls Try.prog 55 #[.pointer (some ⟨b, 0, none⟩), c.val] w fun r w' => r = .returned (.int .i64 (reloadC c)) ∧ Left o q w b (m.afterReload c) w' := by
  refine (reload_any h c).mono ?_
  rintro r w' ⟨e, h1, h2⟩
  exact ⟨e, o, sv, rv, h1, h2⟩

set_option maxRecDepth 100000 in
set_option maxHeartbeats 4000000 in
theorem do_any (h : FMem o q w b m sv rv) (hq : q ≠ 0) (hf : m.Fit B) (hB : B ≤ 48000000) (x : KSt) (hx : x.in64) (hs : x.s.size ≤ 100000000) :
    Calls Try.prog 23 #[.pointer (some ⟨b, 0, none⟩), x.val] w fun r w' => r = .returned (.int .i64 (m.doE x)) ∧ Left o q w b (m.doM x) w' := by
  have hr := recB_size x
  have kR : Hid (∀ w', Calls Try.prog 51 #[x.val] w' fun r w'' => r = .returned (.string x.recB) ∧ Below w'.heap.size w' w'') := fun w' => record_any x hx w'
  obtain ⟨h1, h2, -, -, h5⟩ := hx
  have kS : Hid (∀ w', Calls Try.prog 21 #[x.set.val] w' fun r w'' => r = .returned (setC x.set).val ∧ Below w'.heap.size w' w'') := fun w' => settings_any x.set h5 w'
  have p1 := pickI_bd x.kind 9 (by omega)
  have q1 : Hid (∀ w', Calls Try.prog 15 #[.int .i64 x.a, .int .i64 4] w' fun r w'' => r = .returned (.int .i64 x.cn) ∧ w'' = w') := fun w' => pick_any _ _ w' h2.1 h2.2 (by omega) (by omega)
  have q2 : Hid (∀ w', Calls Try.prog 15 #[.int .i64 x.a, .int .i64 6] w' fun r w'' => r = .returned (.int .i64 x.sn) ∧ w'' = w') := fun w' => pick_any _ _ w' h2.1 h2.2 (by omega) (by omega)
  have q3 : Hid (∀ w', Calls Try.prog 15 #[.int .i64 x.kind, .int .i64 9] w' fun r w'' => r = .returned (.int .i64 x.ki) ∧ w'' = w') := fun w' => pick_any _ _ w' h1.1 h1.2 (by omega) (by omega)
  have hk : x.ki = 0 ∨ x.ki = 1 ∨ x.ki = 2 ∨ x.ki = 3 ∨ x.ki = 4 ∨ x.ki = 5 ∨ x.ki = 6 ∨ x.ki = 7 ∨ x.ki = 8 := by unfold KSt.ki; omega
  have e0 : Hid (∀ w', FMem o q w' b m sv rv → Calls Try.prog 24 #[.pointer (some ⟨b, 0, none⟩), .int .i64 x.cn] w' fun r w'' => r = .returned (.int .i64 (m.connectE x.cn)) ∧ Left o q w' b (m.afterConnect x.cn) w'') := fun w' h' => connect_left h' _
  have e1 : Hid (∀ w', FMem o q w' b m sv rv → Calls Try.prog 50 #[.pointer (some ⟨b, 0, none⟩), .int .i64 x.cn] w' fun r w'' => r = .returned (.int .i64 (m.chk x.cn)) ∧ Left o q w' b (m.afterHangup x.cn) w'') := fun w' h' => hangup_left h' hq hf hB _
  have e2 : Hid (∀ w', FMem o q w' b m sv rv → Calls Try.prog 25 #[.pointer (some ⟨b, 0, none⟩), .int .i64 x.cn, .string x.recB] w' fun r w'' => r = .returned (.int .i64 (m.chk x.cn)) ∧ Left o q w' b (m.afterFeed x.cn x.recB) w'') := fun w' h' => feed_left h' hq hf hB _ _ (by omega)
  have e3 : Hid (∀ w', FMem o q w' b m sv rv → Calls Try.prog 34 #[.pointer (some ⟨b, 0, none⟩), .int .i64 x.sn] w' fun r w'' => r = .returned (.int .i64 (m.stE x.sn 1)) ∧ Left o q w' b (m.afterSpawned x.sn) w'') := fun w' h' => spawned_left h' _
  have e4 : Hid (∀ w', FMem o q w' b m sv rv → Calls Try.prog 52 #[.pointer (some ⟨b, 0, none⟩), .int .i64 x.sn, .string x.s] w' fun r w'' => r = .returned (.int .i64 (m.stE x.sn 3)) ∧ Left o q w' b (m.afterOutput x.sn x.s) w'') := fun w' h' => output_left h' hq hf hB _ _ hs
  have e5 : Hid (∀ w', FMem o q w' b m sv rv → Calls Try.prog 53 #[.pointer (some ⟨b, 0, none⟩), .int .i64 x.sn] w' fun r w'' => r = .returned (.int .i64 (m.stE x.sn 3)) ∧ Left o q w' b (m.afterFinished x.sn) w'') := fun w' h' => finished_left h' hq hf hB _
  have e6 : Hid (∀ w', FMem o q w' b m sv rv → Calls Try.prog 54 #[.pointer (some ⟨b, 0, none⟩), .int .i64 x.sn] w' fun r w'' => r = .returned (.int .i64 (m.diedE x.sn)) ∧ Left o q w' b (m.afterDied x.sn) w'') := fun w' h' => died_left h' hq hf hB _
  have e7 : Hid (∀ w', FMem o q w' b m sv rv → Calls Try.prog 33 #[.pointer (some ⟨b, 0, none⟩)] w' fun r w'' => r = .returned (.tuple #[]) ∧ Left o q w' b m.tick w'') := fun w' h' => tick_left h' hq hf hB
  have e8 : Hid (∀ w', FMem o q w' b m sv rv → Calls Try.prog 55 #[.pointer (some ⟨b, 0, none⟩), (setC x.set).val] w' fun r w'' => r = .returned (.int .i64 (reloadC (setC x.set))) ∧ Left o q w' b (m.afterReload (setC x.set)) w'') := fun w' h' => reload_left h' _
  unfold PM.doE PM.doM
  clear hf hB h1 h2 h5 p1 hr hs hq
  generalize x.recB = RB at *
  generalize setC x.set = SC at *
  generalize x.cn = CN at *
  generalize x.sn = SN at *
  simp only [KSt.val] at *
  unfold Cfg.val at *
  have hbA : Below w.heap.size w (w.alloc (.cells #[.int .i64 x.kind, .int .i64 x.a, .int .i64 x.b, .int .i64 x.c, .string x.s, .int .i64 x.set.ch, .bool x.set.dyn, .int .i64 x.set.mn, .int .i64 x.set.mx, .int .i64 x.set.mr, .int .i64 x.set.tmo, .int .i64 x.set.bl] 51)) := (Below.refl _ _).alloc (Nat.le_refl _) _
  have hA := h.below hbA
  have hcl := h.clean
  clear h
  generalize x.ki = K at *
  rcases hk with rfl | rfl | rfl | rfl | rfl | rfl | rfl | rfl | rfl
  · simp only [if_true]
    go_enter Try.func23, Try.ntmps23
    go_wp2_with fail
    refine (q1.out _).mono ?_
    rintro e w1 ⟨rfl, rfl⟩
    go_wp2_with fail
    refine (q2.out _).mono ?_
    rintro e w2 ⟨rfl, rfl⟩
    go_wp2_with fail
    refine (q3.out _).mono ?_
    rintro e w3 ⟨rfl, rfl⟩
    go_wp2_with fail
    refine (e0.out _ hA).mono ?_
    rintro e w5 ⟨rfl, hl⟩
    go_wp2
    go_ret
    exact ⟨rfl, Left.from hcl hbA hl⟩
  · simp only [show ¬ ((1 : Int) = 0) from by omega, if_false, if_true]
    go_enter Try.func23, Try.ntmps23
    go_wp2_with fail
    refine (q1.out _).mono ?_
    rintro e w1 ⟨rfl, rfl⟩
    go_wp2_with fail
    refine (q2.out _).mono ?_
    rintro e w2 ⟨rfl, rfl⟩
    go_wp2_with fail
    refine (q3.out _).mono ?_
    rintro e w3 ⟨rfl, rfl⟩
    go_wp2_with fail
    refine (e1.out _ hA).mono ?_
    rintro e w5 ⟨rfl, hl⟩
    go_wp2
    go_ret
    exact ⟨rfl, Left.from hcl hbA hl⟩
  · simp only [show ¬ ((2 : Int) = 0) from by omega, show ¬ ((2 : Int) = 1) from by omega, if_false, if_true]
    go_enter Try.func23, Try.ntmps23
    go_wp2_with fail
    refine (q1.out _).mono ?_
    rintro e w1 ⟨rfl, rfl⟩
    go_wp2_with fail
    refine (q2.out _).mono ?_
    rintro e w2 ⟨rfl, rfl⟩
    go_wp2_with fail
    refine (q3.out _).mono ?_
    rintro e w3 ⟨rfl, rfl⟩
    go_wp2_with fail
    refine (kR.out _).mono ?_
    rintro e w4 ⟨rfl, hb4⟩
    go_wp2_with fail
    refine (e2.out _ (hA.below hb4)).mono ?_
    rintro e w5 ⟨rfl, hl⟩
    go_wp2
    go_ret
    exact ⟨rfl, Left.from hcl (hbA.trans (hb4.mono hbA.size)) hl⟩
  · simp only [show ¬ ((3 : Int) = 0) from by omega, show ¬ ((3 : Int) = 1) from by omega, show ¬ ((3 : Int) = 2) from by omega, if_false, if_true]
    go_enter Try.func23, Try.ntmps23
    go_wp2_with fail
    refine (q1.out _).mono ?_
    rintro e w1 ⟨rfl, rfl⟩
    go_wp2_with fail
    refine (q2.out _).mono ?_
    rintro e w2 ⟨rfl, rfl⟩
    go_wp2_with fail
    refine (q3.out _).mono ?_
    rintro e w3 ⟨rfl, rfl⟩
    go_wp2_with fail
    refine (e3.out _ hA).mono ?_
    rintro e w5 ⟨rfl, hl⟩
    go_wp2
    go_ret
    exact ⟨rfl, Left.from hcl hbA hl⟩
  · simp only [show ¬ ((4 : Int) = 0) from by omega, show ¬ ((4 : Int) = 1) from by omega, show ¬ ((4 : Int) = 2) from by omega, show ¬ ((4 : Int) = 3) from by omega, if_false, if_true]
    go_enter Try.func23, Try.ntmps23
    go_wp2_with fail
    refine (q1.out _).mono ?_
    rintro e w1 ⟨rfl, rfl⟩
    go_wp2_with fail
    refine (q2.out _).mono ?_
    rintro e w2 ⟨rfl, rfl⟩
    go_wp2_with fail
    refine (q3.out _).mono ?_
    rintro e w3 ⟨rfl, rfl⟩
    go_wp2_with fail
    refine (e4.out _ hA).mono ?_
    rintro e w5 ⟨rfl, hl⟩
    go_wp2
    go_ret
    exact ⟨rfl, Left.from hcl hbA hl⟩
  · simp only [show ¬ ((5 : Int) = 0) from by omega, show ¬ ((5 : Int) = 1) from by omega, show ¬ ((5 : Int) = 2) from by omega, show ¬ ((5 : Int) = 3) from by omega, show ¬ ((5 : Int) = 4) from by omega, if_false, if_true]
    go_enter Try.func23, Try.ntmps23
    go_wp2_with fail
    refine (q1.out _).mono ?_
    rintro e w1 ⟨rfl, rfl⟩
    go_wp2_with fail
    refine (q2.out _).mono ?_
    rintro e w2 ⟨rfl, rfl⟩
    go_wp2_with fail
    refine (q3.out _).mono ?_
    rintro e w3 ⟨rfl, rfl⟩
    go_wp2_with fail
    refine (e5.out _ hA).mono ?_
    rintro e w5 ⟨rfl, hl⟩
    go_wp2
    go_ret
    exact ⟨rfl, Left.from hcl hbA hl⟩
  · simp only [show ¬ ((6 : Int) = 0) from by omega, show ¬ ((6 : Int) = 1) from by omega, show ¬ ((6 : Int) = 2) from by omega, show ¬ ((6 : Int) = 3) from by omega, show ¬ ((6 : Int) = 4) from by omega, show ¬ ((6 : Int) = 5) from by omega, if_false, if_true]
    go_enter Try.func23, Try.ntmps23
    go_wp2_with fail
    refine (q1.out _).mono ?_
    rintro e w1 ⟨rfl, rfl⟩
    go_wp2_with fail
    refine (q2.out _).mono ?_
    rintro e w2 ⟨rfl, rfl⟩
    go_wp2_with fail
    refine (q3.out _).mono ?_
    rintro e w3 ⟨rfl, rfl⟩
    go_wp2_with fail
    refine (e6.out _ hA).mono ?_
    rintro e w5 ⟨rfl, hl⟩
    go_wp2
    go_ret
    exact ⟨rfl, Left.from hcl hbA hl⟩
  · simp only [show ¬ ((7 : Int) = 0) from by omega, show ¬ ((7 : Int) = 1) from by omega, show ¬ ((7 : Int) = 2) from by omega, show ¬ ((7 : Int) = 3) from by omega, show ¬ ((7 : Int) = 4) from by omega, show ¬ ((7 : Int) = 5) from by omega, show ¬ ((7 : Int) = 6) from by omega, if_false, if_true]
    go_enter Try.func23, Try.ntmps23
    go_wp2_with fail
    refine (q1.out _).mono ?_
    rintro e w1 ⟨rfl, rfl⟩
    go_wp2_with fail
    refine (q2.out _).mono ?_
    rintro e w2 ⟨rfl, rfl⟩
    go_wp2_with fail
    refine (q3.out _).mono ?_
    rintro e w3 ⟨rfl, rfl⟩
    go_wp2_with fail
    refine (e7.out _ hA).mono ?_
    rintro e w5 ⟨rfl, hl⟩
    go_wp2
    go_ret
    exact ⟨rfl, Left.from hcl hbA hl⟩
  · simp only [show ¬ ((8 : Int) = 0) from by omega, show ¬ ((8 : Int) = 1) from by omega, show ¬ ((8 : Int) = 2) from by omega, show ¬ ((8 : Int) = 3) from by omega, show ¬ ((8 : Int) = 4) from by omega, show ¬ ((8 : Int) = 5) from by omega, show ¬ ((8 : Int) = 6) from by omega, show ¬ ((8 : Int) = 7) from by omega, if_false]
    go_enter Try.func23, Try.ntmps23
    go_wp2_with fail
    refine (q1.out _).mono ?_
    rintro e w1 ⟨rfl, rfl⟩
    go_wp2_with fail
    refine (q2.out _).mono ?_
    rintro e w2 ⟨rfl, rfl⟩
    go_wp2_with fail
    refine (q3.out _).mono ?_
    rintro e w3 ⟨rfl, rfl⟩
    go_wp2_with fail
    refine (kS.out _).mono ?_
    rintro e w4 ⟨rfl, hb4⟩
    have hbx : Below w4.heap.size w4 (w4.alloc (.cells #[.int .i64 SC.ch, .bool SC.dyn, .int .i64 SC.mn, .int .i64 SC.mx, .int .i64 SC.mr, .int .i64 SC.tmo, .int .i64 SC.bl] 44)) := (Below.refl _ _).alloc (Nat.le_refl _) _
    go_wp2_with fail
    refine (e8.out _ ((hA.below hb4).below hbx)).mono ?_
    rintro e w5 ⟨rfl, hl⟩
    go_wp2
    go_ret
    have hb5 := hb4.trans (hbx.mono hb4.size)
    exact ⟨rfl, Left.from hcl (hbA.trans (hb5.mono hbA.size)) hl⟩
end
end Go.Proofs.Ytlafkpaljibonaa

namespace Go.Proofs.Ytlafkpaljibonaa
open Go.RowKit

def slotCs (s : PSlot) : List Value := [.int .i64 s.st, .bool s.old, .int .i64 s.served, .int .i64 s.since, .int .i64 s.conn, .int .i64 s.id]
def noSlot : PSlot := ⟨0, false, 0, 0, 0, 0, ⟨#[]⟩⟩
def jobB (s : PSlot) : ByteArray := cond (s.st == 3) s.job ⟨#[]⟩
def opV (m : PM) (k i : Nat) : Value := .bool (cond (decide (i < k)) (m.con i).op false)
def seV (m : PM) (k i : Nat) : Value := .string (cond (decide (i < k)) (strOfNums (m.con i).sent) ⟨#[]⟩)
def slV (m : PM) (s i : Nat) : List Value := slotCs (cond (decide (i < s)) (m.slot i) noSlot)
def joV (m : PM) (s i : Nat) : Value := .string (cond (decide (i < s)) (jobB (m.slot i)) ⟨#[]⟩)

/-- A Look of which the first k connections and the first s slots are written. -/
def lookC (m : PM) (k s : Nat) (bv : Value) (t : Int) (r : Bool) : List Value :=
  [opV m k 0, opV m k 1, opV m k 2, opV m k 3, seV m k 0, seV m k 1, seV m k 2, seV m k 3] ++ (slV m s 0 ++ (slV m s 1 ++ (slV m s 2 ++ (slV m s 3 ++ (slV m s 4 ++ (slV m s 5 ++
    [joV m s 0, joV m s 1, joV m s 2, joV m s 3, joV m s 4, joV m s 5, bv, .int .i64 t, .bool r]))))))

theorem lookC_con (m : PM) (k : Nat) (hk : k < 4) (bv : Value) (t : Int) (r : Bool) :
    ((lookC m k 0 bv t r).set k (.bool (m.con k).op)).set (4 + k) (.string (strOfNums (m.con k).sent)) = lookC m (k + 1) 0 bv t r := by
  rcases k with _ | _ | _ | _ | k <;> first | rfl | omega

theorem lookC_slot (m : PM) (s : Nat) (hs : s < 6) (bv : Value) (t : Int) (r : Bool) :
    (((((((lookC m 4 s bv t r).set (8 + s * 6) (.int .i64 (m.slot s).st)).set (8 + s * 6 + 1) (.bool (m.slot s).old)).set (8 + s * 6 + 2) (.int .i64 (m.slot s).served)).set (8 + s * 6 + 3) (.int .i64 (m.slot s).since)).set (8 + s * 6 + 4) (.int .i64 (m.slot s).conn)).set (8 + s * 6 + 5) (.int .i64 (m.slot s).id)).set (44 + s) (.string (jobB (m.slot s))) = lookC m 4 (s + 1) bv t r := by
  rcases s with _ | _ | _ | _ | _ | _ | s <;> first | rfl | omega

theorem results_cell {fn : Func} {a : Tmp} {t : TypeId} (h : fn.results = #[.cell a t]) {tmps : Array Value} {ad : Addr} (ha : tmps.getD a undef = .pointer (some ad)) {P : Program} {w : World} {v : Value} (hl : (loadVar t ad).run P w = .ok v w) :
    (results fn tmps).run P w = .ok v w := by
  have ha' : tmps[a]?.getD undef = .pointer (some ad) := by rw [← ha]; simp
  simp [results, h, asAddr, ha', hl]

theorem setCells_below {B b : Nat} {a : World} (hb : B ≤ b) : ∀ (vs : List Value) (o : Nat) (w : World), Below B a w → Below B a (w.setCells b o vs)
  | [], _, _, h => h
  | v :: vs, o, w, h => setCells_below hb vs (o + 1) _ (h.setCell (by exact hb) v)
theorem setCells_other {b g : Nat} (hg : g ≠ b) : ∀ (vs : List Value) (o : Nat) (w : World), (w.setCells b o vs).heap[g]? = w.heap[g]?
  | [], _, _ => rfl
  | v :: vs, o, w => (setCells_other hg vs (o + 1) _).trans (Below.heap_setCell _ _ _ g (by simpa using hg))

theorem lookC_info (m : PM) (bv : Value) (t : Int) (r : Bool) : (Try.prog.info? 63).map (·.size) = some (lookC m 4 6 bv t r).length := by
  show (Try.prog.info? 63).map (·.size) = some 53
  kernel_rfl
theorem lookC_one (m : PM) (av : Option Addr) (n c : Nat) (t : Int) (r : Bool) : ((lookC m 4 6 (.slice av n c) t r).toArray).all (·.oneCell') = true := by
  simp [lookC, slV, slotCs, opV, seV, joV, Value.oneCell']

/-- While it looks: what will be answered, and the Look itself. -/
structure LookS (w : World) (m : PM) (L : List Value) (W : World) : Prop where
  r : Blk W w.heap.size 63 (lookC m 0 0 (.slice none 0 0) 0 false)
  l : Blk W (w.heap.size + 1) 63 L
  bel : Below w.heap.size w W

theorem LookS.set {w W : World} {m : PM} {L : List Value} (h : LookS w m L W) (j : Nat) (v : Value) : LookS w m (L.set j v) (W.setCell ⟨w.heap.size + 1, j, none⟩ v) :=
  ⟨h.r.keep (Below.heap_setCell _ _ _ _ (by simp)), h.l.set j v, h.bel.setCell (by simp) _⟩

theorem LookS.below {w W W' : World} {m : PM} {L : List Value} (h : LookS w m L W) (hb : Below W.heap.size W W') : LookS w m L W' :=
  ⟨h.r.below hb, h.l.below hb, h.bel.trans (hb.mono h.bel.size)⟩

theorem LookS.start (w : World) (m : PM) : LookS w m (lookC m 0 0 (.slice none 0 0) 0 true) ((w.alloc (.cells (lookC m 0 0 (.slice none 0 0) 0 false).toArray 63)).alloc (.cells (lookC m 0 0 (.slice none 0 0) 0 true).toArray 63)) := by
  obtain ⟨a, b, d⟩ := two_blks w (lookC m 0 0 (.slice none 0 0) 0 false) (lookC m 0 0 (.slice none 0 0) 0 true) 63 63
  exact ⟨a, b, d⟩

theorem lookC_at (m : PM) (k : Nat) (hk : k < 4) (t : Int) (r : Bool) : (lookC m k 0 (.slice none 0 0) t r)[k]? = some (.bool false) ∧ ((lookC m k 0 (.slice none 0 0) t r).set k (.bool (m.con k).op))[4 + k]? = some (.string ⟨#[]⟩) := by
  rcases k with _ | _ | _ | _ | k <;> first | exact ⟨rfl, rfl⟩ | omega

theorem lookC_sl (m : PM) (s : Nat) (hs : s < 6) (bv : Value) (t : Int) (r : Bool) : (lookC m 4 s bv t r)[8 + s * 6]? = some (.int .i64 0) ∧ (lookC m 4 s bv t r)[8 + s * 6 + 1]? = some (.bool false) ∧ (lookC m 4 s bv t r)[8 + s * 6 + 2]? = some (.int .i64 0) ∧ (lookC m 4 s bv t r)[8 + s * 6 + 3]? = some (.int .i64 0) ∧ (lookC m 4 s bv t r)[8 + s * 6 + 4]? = some (.int .i64 0) ∧ (lookC m 4 s bv t r)[8 + s * 6 + 5]? = some (.int .i64 0) ∧ (lookC m 4 s bv t r)[44 + s]? = some (.string ⟨#[]⟩) := by
  rcases s with _ | _ | _ | _ | _ | _ | s <;> first | exact ⟨rfl, rfl, rfl, rfl, rfl, rfl, rfl⟩ | omega

section
variable {o : Nat → Tag} {q B : Nat} {w : World} {b : Nat} {m : PM} {sv : Nat → Value} {rv : Value}

set_option maxRecDepth 100000 in
set_option maxHeartbeats 4000000 in
theorem look_any (h : FMem o q w b m sv rv) (hmax : m.req.length ≤ 1000000000000) :
    Calls Try.prog 27 #[.pointer (some ⟨b, 0, none⟩)] w fun r w' => ∃ bv, r = .returned (.agg (lookC m 4 6 bv m.time true).toArray) ∧ w'.ownsRow w.heap.size 109 2 bv m.waits.length (keyCells m.waits) ∧ Below w.heap.size w w' := by
  have ko : Hid (∀ w' (n : Int), FMem o q w' b m sv rv → Calls Try.prog 40 #[.pointer (some ⟨b, 0, none⟩), .int .i64 n] w' fun r w'' => r = .returned (.bool (m.open_ n)) ∧ w'' = w') := fun w' n h' => open_any h' n
  have ks : Hid (∀ w' (n : Int), FMem o q w' b m sv rv → Calls Try.prog 36 #[.pointer (some ⟨b, 0, none⟩), .int .i64 n] w' fun r w'' => r = .returned (.string (m.sent_ n)) ∧ w'' = w') := fun w' n h' => sent_any h' n
  have kb : Hid (∀ w', FMem o q w' b m sv rv → Calls Try.prog 31 #[.pointer (some ⟨b, 0, none⟩)] w' fun r w'' => ∃ v, r = .returned v ∧ w''.ownsRow w'.heap.size 109 2 v m.waits.length (keyCells m.waits) ∧ Below w'.heap.size w' w'') := fun w' h' => backlog_any h' hmax
  have kl : Hid (∀ w' (n : Int), FMem o q w' b m sv rv → Calls Try.prog 35 #[.pointer (some ⟨b, 0, none⟩), .int .i64 n] w' fun r w'' => r = .returned (.tuple #[m.slotV n, .int .i64 (slotE n)]) ∧ Below w'.heap.size w' w'') := fun w' n h' => slot_any h' n
  have kj : Hid (∀ w' (n : Int), FMem o q w' b m sv rv → Calls Try.prog 59 #[.pointer (some ⟨b, 0, none⟩), .int .i64 n] w' fun r w'' => r = .returned (.tuple #[.string (m.jobV n), .int .i64 (m.jobE n)]) ∧ w'' = w') := fun w' n h' => job_any h' n
  go_enter Try.func27, Try.ntmps27
  go_wp2_with fail
  go_loopw [4] (fun i w' => ∃ k : Nat, k ≤ 4 ∧ i = .int .i64 k ∧ LookS w m (lookC m k 0 (.slice none 0 0) 0 true) w') (fun i _ => 4 - (intOf i).toNat)
  case atStart => exact ⟨0, by omega, rfl, LookS.start w m⟩
  case round =>
    obtain ⟨k, hk, rfl, st⟩ := hrel
    by_cases hlt : k < 4
    · have hkI : (k : Int) < 4 := by omega
      have hm := h.below st.bel
      have e1 : m.open_ (k : Int) = (m.con k).op := by unfold PM.open_; rw [show isC (k : Int) = true from by simp [isC]; omega]; rfl
      have e2 : m.sent_ (k : Int) = strOfNums (m.con k).sent := by unfold PM.sent_; rw [show isC (k : Int) = true from by simp [isC]; omega]; rfl
      obtain ⟨l1, l2⟩ := lookC_at m k hlt 0 true
      have s1 := st.set k (.bool (m.con k).op)
      have s2 := s1.set (4 + k) (.string (strOfNums (m.con k).sent))
      rw [lookC_con m k hlt] at s2
      have c1 := st.l.cell l1
      have f1 := st.l.frozen
      have c2 := s1.l.cell l2
      have f2 := s1.l.frozen
      have hm1 := h.below s1.bel
      go_wp2_with fail
      refine (ko.out _ k hm).mono ?_
      rintro e w1 ⟨rfl, rfl⟩
      rw [e1]
      go_wp2_with fail
      refine (ks.out _ k hm1).mono ?_
      rintro e w2 ⟨rfl, rfl⟩
      rw [e2]
      go_wp2
      exact ⟨⟨k + 1, by omega, by go_num, s2⟩, by simp [intOf]; omega⟩
    · have : k = 4 := by omega
      subst this
      clear hlt hk
      rw [show ((4 : Nat) : Int) = 4 from rfl]
      go_wp2
      go_loopw [5] (fun i w' => ∃ s : Nat, s ≤ 6 ∧ i = .int .i64 s ∧ LookS w m (lookC m 4 s (.slice none 0 0) 0 true) w') (fun i _ => 6 - (intOf i).toNat)
      case atStart => exact ⟨0, by omega, rfl, st⟩
      case round =>
        clear st
        obtain ⟨s, hs, rfl, st⟩ := hrel
        by_cases hlt : s < 6
        · have hsI : (s : Int) < 6 := by omega
          have hm := h.below st.bel
          have es : isS (s : Int) = true := by simp [isS]; omega
          have e1 : m.slotV (s : Int) = .agg #[.int .i64 (m.slot s).st, .bool (m.slot s).old, .int .i64 (m.slot s).served, .int .i64 (m.slot s).since, .int .i64 (m.slot s).conn, .int .i64 (m.slot s).id] := by unfold PM.slotV; rw [es]; rfl
          have e2 : slotE (s : Int) = 0 := by unfold slotE; rw [es]; rfl
          have e3 : m.jobV (s : Int) = jobB (m.slot s) := by
            unfold PM.jobV jobB; rw [es]; simp only [Int.toNat_natCast, Bool.true_and]
          have e4 : m.jobE (s : Int) = cond ((m.slot s).st == 3) 0 6 := by unfold PM.jobE PM.stE; rw [es]; rfl
          have hls := lookC_slot m s hlt (.slice none 0 0) 0 true
          obtain ⟨l0, l1, l2, l3, l4, l5, l6⟩ := lookC_sl m s hlt (.slice none 0 0) 0 true
          go_wp2_with fail
          refine (kl.out _ s hm).mono ?_
          rintro e w1 ⟨rfl, hb1⟩
          rw [e1, e2]
          have t1 := st.below hb1
          have hlb := t1.l.lt
          generalize jobB (m.slot s) = JB at *
          generalize (m.slot s).st = s0 at *
          generalize (m.slot s).old = old at *
          generalize (m.slot s).served = srv at *
          generalize (m.slot s).since = snc at *
          generalize (m.slot s).conn = cn at *
          generalize (m.slot s).id = id at *
          have X0 := Blk.made w1 58 [.int .i64 s0, .bool old, .int .i64 srv, .int .i64 snc, .int .i64 cn, .int .i64 id]
          have hbx : Below w1.heap.size w1 (w1.alloc (.cells #[.int .i64 s0, .bool old, .int .i64 srv, .int .i64 snc, .int .i64 cn, .int .i64 id] 58)) := (Below.refl _ _).alloc (Nat.le_refl _) _
          have t2 := t1.below hbx
          have hm2 := h.below t2.bel
          go_wp2_with fail
          refine (kj.out _ s hm2).mono ?_
          rintro e w3 ⟨rfl, rfl⟩
          rw [e3, e4]
          have X1 : Blk (w1.alloc (.cells #[.int .i64 s0, .bool old, .int .i64 srv, .int .i64 snc, .int .i64 cn, .int .i64 id] 58)) w1.heap.size 58 [.int .i64 s0, .bool old, .int .i64 srv, .int .i64 snc, .int .i64 cn, .int .i64 id] := X0
          clear X0 hbx hm2
          generalize w1.alloc (.cells #[.int .i64 s0, .bool old, .int .i64 srv, .int .i64 snc, .int .i64 cn, .int .i64 id] 58) = w2 at *
          have a0 := t2.l.cell l0
          have a1 := t2.l.cell l1
          have a2 := t2.l.cell l2
          have a3 := t2.l.cell l3
          have a4 := t2.l.cell l4
          have a5 := t2.l.cell l5
          have a6 := t2.l.cell l6
          have fz := t2.l.frozen
          have x0 := X1.cell (k := 0) (u := .int .i64 s0) rfl
          have x1 := X1.cell (k := 1) (u := .bool old) rfl
          have x2 := X1.cell (k := 2) (u := .int .i64 srv) rfl
          have x3 := X1.cell (k := 3) (u := .int .i64 snc) rfl
          have x4 := X1.cell (k := 4) (u := .int .i64 cn) rfl
          have x5 := X1.cell (k := 5) (u := .int .i64 id) rfl
          have t3 := ((((((t2.set (8 + s * 6) (.int .i64 s0)).set (8 + s * 6 + 1) (.bool old)).set (8 + s * 6 + 2) (.int .i64 srv)).set (8 + s * 6 + 3) (.int .i64 snc)).set (8 + s * 6 + 4) (.int .i64 cn)).set (8 + s * 6 + 5) (.int .i64 id)).set (44 + s) (.string JB)
          rw [hls] at t3
          have X3 : Blk (((((((w2.setCell ⟨w.heap.size + 1, 8 + s * 6, none⟩ (.int .i64 s0)).setCell ⟨w.heap.size + 1, 8 + s * 6 + 1, none⟩ (.bool old)).setCell ⟨w.heap.size + 1, 8 + s * 6 + 2, none⟩ (.int .i64 srv)).setCell ⟨w.heap.size + 1, 8 + s * 6 + 3, none⟩ (.int .i64 snc)).setCell ⟨w.heap.size + 1, 8 + s * 6 + 4, none⟩ (.int .i64 cn)).setCell ⟨w.heap.size + 1, 8 + s * 6 + 5, none⟩ (.int .i64 id)).setCell ⟨w.heap.size + 1, 44 + s, none⟩ (.string JB)) w1.heap.size 58 [.int .i64 s0, .bool old, .int .i64 srv, .int .i64 snc, .int .i64 cn, .int .i64 id] := by
            refine X1.keep ?_
            repeat rw [Below.heap_setCell _ _ _ _ (by simp; omega)]
          have y0 := X3.cell (k := 0) (u := .int .i64 s0) rfl
          have l52 : (lookC m 4 (s + 1) (.slice none 0 0) 0 true)[52]? = some (.bool true) := rfl
          have r0 := t3.l.cell l52
          have fr0 := t3.l.frozen
          have t4 := t3.set 52 (.bool true)
          have e52 : (lookC m 4 (s + 1) (.slice none 0 0) 0 true).set 52 (.bool true) = lookC m 4 (s + 1) (.slice none 0 0) 0 true := rfl
          rw [e52] at t4
          by_cases h3 : s0 = 3
          · subst h3
            go_wp2
            exact ⟨⟨s + 1, by omega, by go_num, t4⟩, by simp [intOf]; omega⟩
          · have h3' : (s0 == 3) = false := by simpa using h3
            rw [h3']
            go_wp2
            exact ⟨⟨s + 1, by omega, by go_num, t4⟩, by simp [intOf]; omega⟩
        · have : s = 6 := by omega
          subst this
          clear hlt hs
          have hm := h.below st.bel
          go_wp2_with fail
          refine (kb.out _ hm).mono ?_
          rintro e w1 ⟨bv, rfl, own, hb1⟩
          have t1 := st.below hb1
          have hm1 := h.below t1.bel
          obtain ⟨av, cv, hv, hln, -⟩ := own_slice own
          subst hv
          have l50 : (lookC m 4 6 (.slice none 0 0) 0 true)[50]? = some (.slice none 0 0) := rfl
          have a0 := t1.l.cell l50
          have f0 := t1.l.frozen
          have t2 := t1.set 50 (.slice av m.waits.length cv)
          have hm2 := h.below t2.bel
          have e50 : (lookC m 4 6 (.slice none 0 0) 0 true).set 50 (.slice av m.waits.length cv) = lookC m 4 6 (.slice av m.waits.length cv) 0 true := rfl
          rw [e50] at t2
          go_wp2_with fail
          refine (time_any hm2).mono ?_
          rintro e w2 ⟨rfl, rfl⟩
          have l51 : (lookC m 4 6 (.slice av m.waits.length cv) 0 true)[51]? = some (.int .i64 0) := rfl
          have a1 := t2.l.cell l51
          have f1 := t2.l.frozen
          have t3 := t2.set 51 (.int .i64 m.time)
          have e51 : (lookC m 4 6 (.slice av m.waits.length cv) 0 true).set 51 (.int .i64 m.time) = lookC m 4 6 (.slice av m.waits.length cv) m.time true := rfl
          rw [e51] at t3
          have t3' : LookS w m (lookC m 4 6 (.slice av m.waits.length cv) m.time true) ((w1.setCell ⟨w.heap.size + 1, 50, none⟩ (.slice av m.waits.length cv)).setCell ⟨w.heap.size + 1, 51, none⟩ (.int .i64 m.time)) := t3
          clear t3
          have hinfo := lookC_info m (.slice av m.waits.length cv) m.time true
          have hone := lookC_one m av m.waits.length cv m.time true
          have hlen : (lookC m 4 6 (.slice av m.waits.length cv) m.time true).length = 53 := rfl
          have hrg : ((w1.setCell ⟨w.heap.size + 1, 50, none⟩ (.slice av m.waits.length cv)).setCell ⟨w.heap.size + 1, 51, none⟩ (.int .i64 m.time)).rangeAt (w.heap.size + 1) 0 (lookC m 4 6 (.slice av m.waits.length cv) m.time true) := fun j v hv => t3'.l.cell (by simpa using hv)
          have hth : ((w1.setCell ⟨w.heap.size + 1, 50, none⟩ (.slice av m.waits.length cv)).setCell ⟨w.heap.size + 1, 51, none⟩ (.int .i64 m.time)).there w.heap.size 0 (lookC m 4 6 (.slice av m.waits.length cv) m.time true).toArray.size := by
            intro j hj
            refine ⟨?_, t3'.r.frozen _⟩
            have hj2 : j < (lookC m 0 0 (.slice none 0 0) 0 false).length := by
              have : (lookC m 0 0 (.slice none 0 0) 0 false).length = 53 := rfl
              rw [this]
              simpa [hlen] using hj
            rw [t3'.r.cell (k := 0 + j) (u := (lookC m 0 0 (.slice none 0 0) 0 false)[j]) (by rw [Nat.zero_add]; exact List.getElem?_eq_getElem hj2)]
            rfl
          generalize hLL : lookC m 4 6 (.slice av m.waits.length cv) m.time true = LL at *
          have HL : Hid _ := hLL
          clear hLL
          go_wp2_with (first | (refine wpList_load_mid rfl 63 (.tmp 3) rfl (w.heap.size + 1) 0 rfl LL _ hrg Try.underlying63 rfl hinfo ?_) | (refine wpList_store_mid rfl 63 (.tmp 2) (.tmp 72) rfl w.heap.size 0 LL.toArray rfl rfl hth (by simpa using hinfo) hone ?_))
          have hld := run_loadVar_mid (P := Try.prog) (((w1.setCell ⟨w.heap.size + 1, 50, none⟩ (.slice av m.waits.length cv)).setCell ⟨w.heap.size + 1, 51, none⟩ (.int .i64 m.time)).setCells w.heap.size 0 LL) w.heap.size 0 63 LL _ (World.rangeAt_setCells_same _ _ _ _ (by simpa using hth)) Try.underlying63 rfl hinfo
          refine bodyPost_ret (v := .agg LL.toArray) (results_cell Try.results27 rfl hld) rfl ⟨.slice av m.waits.length cv, by rw [HL.out], ?_, setCells_below (Nat.le_refl _) _ _ _ t3'.bel⟩
          have hlt := own.lt
          have hz := st.l.lt
          have hz2 := st.bel.size
          refine own_keepAt own (fun g hg => ?_) (by omega)
          obtain ⟨g1, g2⟩ := hlt g hg
          rw [setCells_other (by omega), Below.heap_setCell _ _ _ g (by simp; omega), Below.heap_setCell _ _ _ g (by simp; omega)]
end
end Go.Proofs.Ytlafkpaljibonaa
