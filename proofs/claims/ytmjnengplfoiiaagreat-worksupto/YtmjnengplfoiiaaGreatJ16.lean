import Derived.Test.YtmjnengplfoiiaaGreatJ15
import Derived.Test.YtmjnengplfoiiaaGreatJ11
import Derived.Test.YtmjnengplfoiiaaGreatJ5
import Derived.Test.YtmjnengplfoiiaaGreatJ3
namespace Go.Proofs.YtmjnengplfoiiaaGreat
open Go.RowKit

/-- A connection is open, and holds back, as it did. -/
def ConSame (m m' : PM) : Prop := ∀ j, (m'.con j).op = (m.con j).op ∧ (m'.con j).rest = (m.con j).rest

theorem ConSame.refl (m : PM) : ConSame m m := fun _ => ⟨rfl, rfl⟩
theorem ConSame.trans {a b c : PM} (h : ConSame a b) (k : ConSame b c) : ConSame a c := fun j => ⟨(k j).1.trans (h j).1, (k j).2.trans (h j).2⟩
theorem ConSame.of_eq {m m' : PM} (h : m'.con = m.con) : ConSame m m' := fun j => by rw [h]; exact ⟨rfl, rfl⟩

theorem ConSame.sendB (m : PM) (k : Nat) (s : ByteArray) : ConSame m (m.sendB k s) := by
  intro j
  simp only [PM.sendB, upd]
  split
  · rename_i e; subst e; exact ⟨rfl, rfl⟩
  · exact ⟨rfl, rfl⟩

theorem ConSame.endKey (m : PM) (k : Nat) (i st : Int) : ConSame m (m.endKey k i st) :=
  (ConSame.sendB m k _).trans (ConSame.of_eq (drop_same _ _ _).2.2)

theorem ConSame.take (m : PM) (k : Nat) (r : Rec) : ConSame m (m.take k r) := by
  unfold PM.take
  split
  · unfold PM.begin_
    cases (r.2.2.toList == [1])
    · exact ConSame.endKey m k _ _
    · cases decide ((m.keysOf k).length ≥ 4)
      · exact ConSame.refl _
      · exact ConSame.endKey m k _ _
  split
  · unfold PM.in_
    cases m.find k r.2.1 with
    | none => exact ConSame.refl _
    | some a =>
      simp only []
      unfold PM.inAt PM.enqueue
      cases ((m.req.getD a noReq).stage == 0)
      · exact ConSame.refl _
      · cases (r.2.2.toList == [])
        · cases decide (500 < ((m.req.getD a noReq).body ++ r.2.2).size)
          · exact ConSame.refl _
          · exact ConSame.endKey m k _ _
        · cases m.room
          · exact ConSame.endKey m k _ _
          · exact ConSame.refl _
  split
  · unfold PM.abort
    cases m.find k r.2.1 with
    | none => exact ConSame.refl _
    | some a =>
      simp only []
      refine ConSame.trans ?_ (ConSame.endKey _ k _ _)
      cases m.slotOf k r.2.1 <;> exact ConSame.refl _
  · exact ConSame.refl _

theorem startTo_con (m : PM) (u : Int) : ∀ k, (startTo m u k).1.con = m.con
  | 0 => rfl
  | k + 1 => by
    have ih := startTo_con m u k
    simp only [startTo]
    cases (decide ((startTo m u k).2 < m.set.ch) && ((startTo m u k).1.slot k).st == 0) <;> exact ih

theorem leaseTo_con (m : PM) : ∀ k, (m.leaseTo k).con = m.con
  | 0 => rfl
  | k + 1 => by
    have ih := leaseTo_con m k
    show ((m.leaseTo k).leaseAt k).con = _
    unfold PM.leaseAt
    cases (m.leaseTo k).fw with
    | none => exact ih
    | some a =>
      simp only []
      cases (((m.leaseTo k).slot k).st == 2) <;> exact ih

theorem ConSame.settle (m : PM) : ConSame m m.settle := by
  apply ConSame.of_eq
  unfold PM.settle PM.leaseWaiting
  rw [leaseTo_con]
  cases m.set.dyn
  · exact startTo_con m _ 6
  · rfl

theorem dropAll_con : ∀ (l : List (Int × Int)) (m : PM), (m.dropAll l).con = m.con
  | [], _ => rfl
  | p :: l, m => by
    show ((m.drop p.1 p.2).dropAll l).con = _
    rw [dropAll_con l, (drop_same m p.1 p.2).2.2]

theorem close_con (m : PM) (k j : Nat) : ((m.close k).con j) = if j = k then { m.con k with op := false, rest := ⟨#[]⟩ } else m.con j := by
  unfold PM.close
  rw [dropAll_con]
  simp only [PM.shut, upd]

theorem settle_line (M : RM) : M.settle.line = M.line := by
  unfold RM.settle
  rw [(RM.leaseN_same 6 M.startAll).2.2.2.1]
  exact (RM.startN_same 6 M).2.2.2.1

theorem one_line {M : RM} (hwf : M.wf) (k i : Nat) (r : Rec) (j : Nat) :
    ((M.one k i r).line j).come = (M.line j).come ∧ ((M.one k i r).line j).took = if j = k then i + 1 else (M.line j).took := by
  have hst := RM.step_take (m := M.tookAt k (i + 1)) ⟨hwf.q, hwf.s, hwf.ch⟩ k r.1 r.2.1 r.2.2 (plcI (M.find k r.2.1)) (plcI_lt (m := M))
  unfold RM.one
  rw [settle_line, hst.come j, hst.took j]
  simp only [RM.tookAt, upd]
  constructor
  · split
    · rename_i e; rw [e]
    · rfl
  · split <;> rfl

/-- What the two have come to when all that came is taken. -/
structure Fin (k : Nat) (all : ByteArray) (m m' : PM) (M R : RM) (P : List Rec × Nat × Bool) (i : Nat) (stop : Bool) : Prop where
  sim : Sim m' (cond (!stop && P.2.2) (R.close k) R)
  come : ∀ j, (R.line j).come = (M.line j).come
  took : ∀ j, j ≠ k → (R.line j).took = (M.line j).took
  rest : ∀ j, j ≠ k → (m'.con j).rest = (m.con j).rest ∧ (m'.con j).op = (m.con j).op
  fed : (m'.con k).op = true → stop = false ∧ P.2.2 = false ∧ (m'.con k).rest = left all P.2.1 ∧ (R.line k).took = if P.1 = [] then (M.line k).took else i + P.1.length
  small : (m'.con k).rest.size ≤ all.size

theorem feed_sim (k : Nat) (hk : k < 4) (all : ByteArray) : ∀ (f t : Nat) (m : PM) (M : RM) (i : Nat), Sim m M → all.size - t < f →
    Fin k all m (PM.takeAll k all f m t) M (RM.feedL k (rdec true f all t).1 M i).1 (rdec true f all t) i (RM.feedL k (rdec true f all t).1 M i).2
  | 0, _, _, _, _, _, h => by omega
  | f + 1, t, m, M, i, hs, hf => by
    rcases rcode_cases true (left all t) with e | e | e
    · rw [rdec_zero e]
      have et : PM.takeAll k all (f + 1) m t = m.setRest k (left all t) := by simp only [PM.takeAll, e, if_true]
      rw [et]
      have hne : ∀ j, j ≠ k → (m.setRest k (left all t)).con j = m.con j := fun j hj => by simp [PM.setRest, upd_other _ _ hj]
      exact ⟨hs.rest k _, fun _ => rfl, fun _ _ => rfl, fun j hj => by rw [hne j hj]; exact ⟨rfl, rfl⟩, fun _ => ⟨rfl, rfl, by simp [PM.setRest], by simp [RM.feedL]⟩, by simp only [PM.setRest, upd_same]; rw [left_size]; omega⟩
    · rw [rdec_one e]
      have et : PM.takeAll k all (f + 1) m t = m.close k := by simp [PM.takeAll, e]
      rw [et]
      refine ⟨hs.close k, fun _ => rfl, fun _ _ => rfl, fun j hj => by rw [close_con, if_neg hj]; exact ⟨rfl, rfl⟩, fun ho => ?_, by rw [close_con, if_pos rfl]; exact Nat.zero_le _⟩
      rw [close_con, if_pos rfl] at ho
      cases ho
    · rw [rdec_two e]
      obtain ⟨z1, z2, -⟩ := rcode_two e
      rw [left_size] at z2
      obtain ⟨hkd, -⟩ := two_kind e
      generalize hr : recT (left all t) = r at *
      generalize hz : sizeT (left all t) = z at *
      have et : PM.takeAll k all (f + 1) m t = cond (m.again k r.2.1 r.1) (m.close k) (PM.takeAll k all f ((m.take k r).settle) (t + z)) := by
        simp [PM.takeAll, e, hr, hz]
      rw [et]
      have efl : RM.feedL k (r :: (rdec true f all (t + z)).1) M i = cond (r.1 == 1 && (M.find k r.2.1).isSome) (M.close k, true) (RM.feedL k (rdec true f all (t + z)).1 (M.one k i r) (i + 1)) := rfl
      simp only []
      rw [efl]
      have hag : m.again k r.2.1 r.1 = (r.1 == 1 && (M.find k r.2.1).isSome) := by
        unfold PM.again
        rw [Bool.and_comm]
        congr 1
        cases hfm : M.find k r.2.1 with
        | none => rw [hs.find_none hfm]
        | some a =>
          obtain ⟨-, -, -, b, -, hb, -⟩ := hs.find_some hfm
          rw [hb]; rfl
      rw [hag]
      cases hc : (r.1 == 1 && (M.find k r.2.1).isSome)
      · simp only [cond_false]
        have h1 : Sim (m.take k r).settle (M.one k i r) := by
          have := ((hs.took k (i + 1)).take hk r hkd (fun e1 => by
            cases hfm : M.find k r.2.1 with
            | none => exact hfm
            | some a => rw [hfm] at hc; simp [e1] at hc)).settle
          exact this
        have ih := feed_sim k hk all f (t + z) (m.take k r).settle (M.one k i r) (i + 1) h1 (by omega)
        have hcs := (ConSame.take m k r).trans (ConSame.settle _)
        have hol := fun j => one_line hs.wf k i r j
        generalize rdec true f all (t + z) = P at *
        generalize RM.feedL k P.1 (M.one k i r) (i + 1) = R at *
        obtain ⟨a1, a2, a3, a4, a5, a6⟩ := ih
        refine ⟨a1, fun j => (a2 j).trans (hol j).1, fun j hj => (a3 j hj).trans (by rw [(hol j).2, if_neg hj]), fun j hj => ⟨(a4 j hj).1.trans (hcs j).2, (a4 j hj).2.trans (hcs j).1⟩, fun ho => ?_, a6⟩
        obtain ⟨b1, b2, b3, b4⟩ := a5 ho
        refine ⟨b1, b2, b3, ?_⟩
        rw [b4, (hol k).2, if_pos rfl]
        simp only [reduceCtorEq, if_false, List.length_cons]
        split
        · rename_i e0; rw [e0]; simp
        · omega
      · simp only [cond_true]
        refine ⟨hs.close k, ?_, ?_, fun j hj => by rw [close_con, if_neg hj]; exact ⟨rfl, rfl⟩, fun ho => ?_, by rw [close_con, if_pos rfl]; exact Nat.zero_le _⟩
        · intro j
          simp only [RM.close, upd]
          split
          · rename_i e0; rw [e0]
          · rfl
        · intro j hj
          simp only [RM.close, upd_other _ _ hj]
        · rw [close_con, if_pos rfl] at ho
          cases ho

end Go.Proofs.YtmjnengplfoiiaaGreat

namespace Go.Proofs.YtmjnengplfoiiaaGreat
open Go.RowKit

/-- What has come over the connections that are open. -/
def Fed (m : PM) (M : RM) : Prop := ∀ k, k < 4 → (m.con k).op = true → (M.line k).took = (rdL true (M.line k).come).length ∧ (m.con k).rest = left (M.line k).come (rdN true (M.line k).come) ∧ rdB true (M.line k).come = false

def LineSame (M M' : RM) : Prop := ∀ j, (M'.line j).come = (M.line j).come ∧ (M'.line j).took = (M.line j).took

theorem LineSame.refl (M : RM) : LineSame M M := fun _ => ⟨rfl, rfl⟩
theorem LineSame.trans {a b c : RM} (h : LineSame a b) (k : LineSame b c) : LineSame a c := fun j => ⟨(k j).1.trans (h j).1, (k j).2.trans (h j).2⟩
theorem LineSame.of_eq {M M' : RM} (h : M'.line = M.line) : LineSame M M' := fun j => by rw [h]; exact ⟨rfl, rfl⟩
theorem LineSame.send (M : RM) (k : Nat) (r : Rec) : LineSame M (M.send k r) := by
  intro j
  simp only [RM.send, upd]
  split
  · rename_i e; subst e; exact ⟨rfl, rfl⟩
  · exact ⟨rfl, rfl⟩
theorem LineSame.endOf (M : RM) (k : Nat) (st : Int) : LineSame M (M.endOf k st) := by
  unfold RM.endOf
  cases M.live k
  · exact LineSame.refl _
  · exact LineSame.send M _ _
theorem LineSame.outN (c : Nat) (i : Int) : ∀ (f : Nat) (M : RM) (t : ByteArray), LineSame M (RM.outN c i f M t)
  | 0, M, _ => LineSame.refl M
  | f + 1, M, t => by
    unfold RM.outN
    split
    · exact LineSame.refl _
    · exact (LineSame.send M _ _).trans (LineSame.outN c i f _ _)
theorem ConSame.outN (c : Nat) (i : Int) : ∀ (f : Nat) (m : PM) (t : ByteArray), ConSame m (PM.outN c i f m t)
  | 0, m, _ => ConSame.refl m
  | f + 1, m, t => by
    unfold PM.outN
    split
    · exact ConSame.refl _
    · exact (ConSame.sendB m _ _).trans (ConSame.outN c i f _ _)
theorem ConSame.endKeyOf (m : PM) (k : Nat) (st : Int) : ConSame m (m.endKeyOf k st) := by
  unfold PM.endKeyOf
  cases ((m.slot k).conn != -1)
  · exact ConSame.refl _
  · exact ConSame.endKey m _ _ _

theorem Fed.of {m m' : PM} {M M' : RM} (h : Fed m M) (h1 : ConSame m m') (h2 : LineSame M M') : Fed m' M' := by
  intro k hk ho
  rw [(h1 k).1] at ho
  rw [(h2 k).1, (h2 k).2, (h1 k).2]
  exact h k hk ho

theorem rd_nil : rdL true ⟨#[]⟩ = [] ∧ rdN true ⟨#[]⟩ = 0 ∧ rdB true ⟨#[]⟩ = false := by
  have e : rcode true (left ⟨#[]⟩ 0) = 0 := by
    unfold rcode
    rw [if_pos]
    rw [left_size]
    decide
  obtain ⟨a, b, c⟩ := rd_parts true ⟨#[]⟩
  rw [rdec_zero e] at a b c
  exact ⟨a, b, c⟩

section
variable {m : PM} {M : RM}

theorem Fed.connect (h : Fed m M) (k : Nat) : Fed (m.connect k) (M.connect k) := by
  intro j hj ho
  obtain ⟨a, b, c⟩ := rd_nil
  by_cases e : j = k
  · subst e
    simp only [PM.connect, RM.connect, upd_same]
    rw [a, b, c]
    refine ⟨rfl, ?_, rfl⟩
    unfold left
    rfl
  · simp only [PM.connect, RM.connect, upd_other _ _ e] at ho ⊢
    exact h j hj ho

theorem Fed.close (h : Fed m M) (k : Nat) : Fed (m.close k) (M.close k) := by
  intro j hj ho
  rw [close_con] at ho ⊢
  by_cases e : j = k
  · rw [if_pos e] at ho; cases ho
  · rw [if_neg e] at ho ⊢
    have := h j hj ho
    simp only [RM.close, upd_other _ _ e]
    exact this

theorem Fed.feed (hs : Sim m M) (h : Fed m M) {k : Nat} (hk : k < 4) (ho : (m.con k).op = true) (s : ByteArray) : Sim (m.feed k s) (M.feed k s) ∧ Fed (m.feed k s) (M.feed k s) ∧ (∀ j, j ≠ k → ((m.feed k s).con j).rest = (m.con j).rest) ∧ ((m.feed k s).con k).rest.size ≤ (m.con k).rest.size + s.size ∧ ∀ j, ((M.feed k s).line j).come = if j = k then (M.line k).come ++ s else (M.line j).come := by
  obtain ⟨h1, h2, h3⟩ := h k hk ho
  obtain ⟨r1, r2, r3, r4⟩ := read_on (M.line k).come s h3
  have hsim := hs.came k ((M.line k).come ++ s)
  have hfs := feed_sim k hk ((m.con k).rest ++ s) (((m.con k).rest ++ s).size + 1) 0 m (M.cameAt k ((M.line k).come ++ s)) (M.line k).took hsim (by omega)
  obtain ⟨pL, pN, pB⟩ := rd_parts true ((m.con k).rest ++ s)
  have hdrop : (rdL true ((M.line k).come ++ s)).drop (M.line k).took = rdL true ((m.con k).rest ++ s) := by
    rw [r1, h1, h2, List.drop_left]
  have hB : rdB true ((M.line k).come ++ s) = rdB true ((m.con k).rest ++ s) := by rw [r3, h2]
  unfold PM.feed RM.feed
  rw [hdrop, hB, pL, pB]
  have hcl : ∀ j, ((M.cameAt k ((M.line k).come ++ s)).line j).come = if j = k then (M.line k).come ++ s else (M.line j).come := by
    intro j
    simp only [RM.cameAt, upd]
    split <;> rfl
  have htl : ∀ j, ((M.cameAt k ((M.line k).come ++ s)).line j).took = (M.line j).took := by
    intro j
    simp only [RM.cameAt, upd]
    split
    · rename_i e; rw [e]
    · rfl
  generalize rdec true (((m.con k).rest ++ s).size + 1) ((m.con k).rest ++ s) 0 = P at *
  generalize RM.feedL k P.1 (M.cameAt k ((M.line k).come ++ s)) (M.line k).took = R at *
  generalize PM.takeAll k ((m.con k).rest ++ s) (((m.con k).rest ++ s).size + 1) m 0 = m' at *
  obtain ⟨a1, a2, a3, a4, a5, a6⟩ := hfs
  refine ⟨a1, ?_, fun j hj => (a4 j hj).1, by rw [ByteArray.size_append] at a6; exact a6, fun j => by
    have e0 : ((cond (!R.2 && P.2.2) (R.1.close k) R.1).line j).come = (R.1.line j).come := by
      cases (!R.2 && P.2.2)
      · rfl
      · simp only [cond_true, RM.close, upd]
        split
        · rename_i e; rw [e]
        · rfl
    rw [e0, a2 j, hcl j]⟩
  intro j hj ho'
  by_cases e : j = k
  · subst e
    obtain ⟨b1, b2, b3, b4⟩ := a5 ho'
    rw [b1, b2]
    simp only [Bool.not_false, Bool.and_false, cond_false]
    rw [a2 j, hcl j, if_pos rfl, b4, htl j]
    refine ⟨?_, ?_, ?_⟩
    · rw [r1, List.length_append, ← h1, ← h2, pL]
      split
      · rename_i e0; rw [e0]; simp
      · rfl
    · rw [b3, r2, ← pN, ← h2]
      rw [← left_left, left_app _ _ r4, h2]
    · rw [hB, pB]; exact b2
  · have hop : (m.con j).op = true := by rw [← (a4 j e).2]; exact ho'
    obtain ⟨c1, c2, c3⟩ := h j hj hop
    have hline : (cond (!R.2 && P.2.2) (R.1.close k) R.1).line j = R.1.line j := by
      cases (!R.2 && P.2.2)
      · rfl
      · simp only [cond_true, RM.close, upd_other _ _ e]
    rw [hline, a2 j, a3 j e, hcl j, if_neg e, htl j, (a4 j e).1]
    exact ⟨c1, c2, c3⟩

theorem Sim.outN (c : Nat) (i : Int) : ∀ (f : Nat) {m : PM} {M : RM} (t : ByteArray), Sim m M → Sim (PM.outN c i f m t) (RM.outN c i f M t)
  | 0, _, _, _, h => h
  | f + 1, m, M, t, h => by
    unfold PM.outN RM.outN
    split
    · exact h
    · exact Sim.outN c i f _ (h.send c 6 i _)

theorem Sim.has_key (h : Sim m M) {k : Nat} (hk : k < 6) : ((m.slot k).conn != -1) = M.live k ∧ (M.live k = true → (m.slot k).conn = (M.key (M.slot k).key).conn ∧ (m.slot k).id = (M.key (M.slot k).key).id ∧ (M.key (M.slot k).key).is ≠ 3 ∧ ∃ c : Nat, c < 4 ∧ (M.key (M.slot k).key).conn = c) := by
  have hc := h.conn k hk
  have hi := h.id k hk
  unfold RM.connOf at hc
  unfold RM.idOf at hi
  cases hl : M.live k
  · rw [hl] at hc
    rw [hc]
    exact ⟨rfl, fun e => by cases e⟩
  · rw [hl] at hc hi
    have h2 := (RM.live_iff.1 hl).2
    have hon : (M.key (M.slot k).key).is ≠ 3 := by omega
    obtain ⟨c, hc4, hcn⟩ := h.range _ (RM.on_lt hon)
    rw [← M.key_eq (RM.on_lt hon)] at hcn
    refine ⟨?_, fun _ => ⟨hc, hi, hon, c, hc4, hcn⟩⟩
    rw [hc]
    show ((M.key (M.slot k).key).conn != -1) = true
    rw [hcn]
    simp

theorem Sim.fair (h : Sim m M) : (∀ k, k < 6 → m.fair k) ∧ ∀ k, k < 6 → M.fair k := by
  constructor
  · intro k hk
    obtain ⟨h1, h2⟩ := h.has_key hk
    unfold PM.fair
    cases hl : M.live k
    · rw [hl] at h1
      left
      simpa using h1
    · obtain ⟨e, -, -, c, hc, e2⟩ := h2 hl
      exact .inr ⟨c, hc, e.trans e2⟩
  · intro k hk hl
    obtain ⟨-, -, -, c, hc, e2⟩ := (h.has_key hk).2 hl
    exact ⟨c, hc, e2⟩

theorem Sim.endOf (h : Sim m M) {k : Nat} (hk : k < 6) (st : Int) : Sim (m.endKeyOf k st) (M.endOf k st) := by
  obtain ⟨h1, h2⟩ := h.has_key hk
  unfold PM.endKeyOf RM.endOf
  rw [h1]
  cases hl : M.live k
  · exact h
  · obtain ⟨e1, e2, e3, -⟩ := h2 hl
    simp only [cond_true]
    rw [e1, e2]
    exact h.endKey e3 st

theorem Sim.wakes (h : Sim m M) {k : Nat} (hk : k < 6) (hst : (M.slot k).st = 1) : Sim (cond (m.slot k).old (m.kill k) (m.becomesAt k 2)) (M.wakes k) := by
  have hs0 := h.idle0 k hk (by omega)
  have e1 : (M.slotSt k 2).slotSince k 0 = M.slotSt k 2 := by
    simp only [RM.slotSt, RM.slotSince, upd_same, RM.mk.injEq, true_and, and_true]
    funext t
    simp only [upd]
    split
    · rw [← hs0]
    · rfl
  have e2 : (M.slotSt k 2).kill k = M.kill k := by
    simp only [RM.slotSt, RM.kill, upd_same, RM.mk.injEq, true_and, and_true]
    funext t
    simp only [upd]
    split <;> rfl
  unfold RM.wakes
  rw [h.old k hk, e2]
  cases (M.slot k).old
  · simp only [cond_false]
    rw [← e1]
    exact h.becomes hk 2 (by omega)
  · exact h.kill hk

theorem Sim.spawned (h : Sim m M) {k : Nat} (hk : k < 6) (hst : (M.slot k).st = 1) : Sim (m.spawned k) (M.spawned k) := (h.wakes hk hst).settle

theorem Sim.outputs (h : Sim m M) {k : Nat} (hk : k < 6) (s : ByteArray) : Sim (m.outputs k s) (M.outputs k s) := by
  obtain ⟨h1, h2⟩ := h.has_key hk
  unfold PM.outputs RM.outputs RM.putsOut PM.sendOut
  apply Sim.settle
  rw [h1]
  cases hl : M.live k
  · exact h
  · obtain ⟨e1, e2, -⟩ := h2 hl
    simp only [cond_true]
    rw [e1, e2]
    exact Sim.outN _ _ _ _ h

theorem Sim.finished (h : Sim m M) {k : Nat} (hk : k < 6) : Sim (m.finished k) (M.finished k) := by
  have h1 := h.endOf hk 0
  unfold PM.finished RM.finished
  apply Sim.settle
  generalize m.endKeyOf k 0 = m' at *
  generalize M.endOf k 0 = M' at *
  unfold PM.retires RM.retires PM.mustGo RM.goes
  rw [h1.old k hk, h1.served k hk, h1.set]
  cases ((M'.slot k).old || (decide (0 < M'.set.mr) && decide (M'.set.mr ≤ (M'.slot k).served)))
  · exact h1.becomes hk 2 (by omega)
  · exact h1.kill hk

theorem Sim.died (h : Sim m M) {k : Nat} (hk : k < 6) : Sim (m.died k) (M.died k) := ((h.endOf hk 1).anew hk 0 (by omega)).settle

end
end Go.Proofs.YtmjnengplfoiiaaGreat

namespace Go.Proofs.YtmjnengplfoiiaaGreat
open Go.RowKit

theorem own_recs {w : World} {base g c : Nat} {l : List Rec} (h : w.ownsRow base 101 3 (.slice (some ⟨g, 0, none⟩) l.length c) l.length (rowOf l)) :
    ∀ k (hk : k < l.length), w.cell? ⟨g, k * 3, none⟩ = some (.int .i64 l[k].1) ∧ w.cell? ⟨g, k * 3 + 1, none⟩ = some (.int .i64 l[k].2.1) ∧ w.cell? ⟨g, k * 3 + 2, none⟩ = some (.string l[k].2.2) := by
  intro k hk
  have := rowOf_get l k hk
  rw [Nat.mul_comm 3 k] at this
  rw [h.cellAt _ (by omega), h.cellAt _ (by omega), h.cellAt _ (by omega)]
  exact this

section
variable {o : Nat → Tag} {q : Nat} {w : World} {b : Nat} {m : RM} {lv : Nat → Value} {kv qv : Value}

set_option maxRecDepth 100000 in
set_option maxHeartbeats 40000000 in
theorem rFeed_open (h : RMem o q w b m lv kv qv) (hq : q ≠ 0) (k : Nat) (hk : k < 4) (s : ByteArray) (hchk : m.chk k = 0) {K Q S : Nat} (hg : m.good K Q S) (hK : K ≤ 10000000000) (hQ : Q ≤ 10000000000) (hS : S ≤ 10000000000)
    (hsz : (m.line k).come.size + s.size ≤ 1000000000) (htook : (m.line k).took ≤ (rdL true ((m.line k).come ++ s)).length) (hlen : (rdL true ((m.line k).come ++ s)).length ≤ 1000000000)
    (hrec : ∀ r ∈ rdL true ((m.line k).come ++ s), (r.1 = 1 ∨ r.1 = 2 ∨ r.1 = 5) ∧ r.2.2.size ≤ 100000000) :
    Calls Tryz.prog 46 #[.pointer (some ⟨b, 0, none⟩), .int .i64 k, .string s] w fun r w' => r = .returned (.int .i64 0) ∧ ∃ o' lv' kv' qv', RMem o' q w' b (m.feed k s) lv' kv' qv' ∧ Fr q o w o' w' := by
  have k1 : Hid (∀ w', RMem o q w' b m lv kv qv → Calls Tryz.prog 75 #[.pointer (some ⟨b, 0, none⟩), .int .i64 k] w' fun r w'' => r = .returned (.int .i64 0) ∧ w'' = w') := fun w' h' => by
    have := rClosed_any h' k
    rw [hchk] at this
    exact this
  have hkI : (k : Int) < 4 := by omega
  obtain ⟨-, c1, c2, -⟩ := h.linec hk
  obtain ⟨hm1, fr1⟩ := h.setCome k hk ((m.line k).come ++ s)
  have fz := h.frozen
  have hcat : ¬ (9223372036854775807 < (m.line k).come.size + s.size) := by omega
  have hsz' : ((m.line k).come ++ s).size ≤ 1000000000 := by rw [ByteArray.size_append]; exact hsz
  unfold RM.feed
  have hg1 := hg.came k ((m.line k).come ++ s)
  have hcome : ((m.cameAt k ((m.line k).come ++ s)).line k).took = (m.line k).took := by simp [RM.cameAt]
  have hcome2 : ((m.cameAt k ((m.line k).come ++ s)).line k).come = (m.line k).come ++ s := by simp [RM.cameAt]
  generalize (m.line k).come = c0 at *
  generalize hall : c0 ++ s = all at *
  generalize (m.line k).took = t0 at *
  generalize hm1e : m.cameAt k all = m1 at *
  have hm1e' : Hid _ := hm1e
  clear hm1e
  have kr : Hid (∀ w', Calls Tryz.prog 78 #[.string all, .bool true] w' fun r w'' => ∃ v, r = .returned (.tuple #[v, .int .i64 (rdN true all), .bool (rdB true all)]) ∧ w''.ownsRow w'.heap.size 101 3 v (rdL true all).length (rowOf (rdL true all)) ∧ Below w'.heap.size w' w'') := fun w' => refRead_any all true w' (by omega)
  generalize rdL true all = l at *
  generalize rdB true all = bad at *
  generalize rdN true all = rn at *
  go_enter Tryz.func46, Tryz.ntmps46
  go_wp2_with fail
  refine (k1.out _ h).mono ?_
  rintro e w1 ⟨rfl, rfl⟩
  go_wp2_with fail
  refine wp_region_noPanic ?_
  refine wp_region_held_drew (S := fun w' => True) (by kernel_rfl) trivial (fun hHeld => ?_)
  refine take_at (i := 0) (v := ?_) rfl (by kernel_rfl) (by kernel_rfl) (by kernel_rfl) (fun _ _ _ h => h) (by rfl) ?_ (by assumption) ?_
  rotate_left
  · (intro wx hSw; go_simp; with_reducible rfl)
  simp only [Act.put, List.setIfInBounds_toArray, List.set_cons_zero, List.set_cons_succ]
  refine take_at (i := 1) (v := ?_) rfl (by kernel_rfl) (by kernel_rfl) (by kernel_rfl) (fun _ _ _ h => h) (by rfl) ?_ (by assumption) ?_
  rotate_left
  · (intro wx hSw; go_simp; with_reducible rfl)
  simp only [Act.put, List.setIfInBounds_toArray, List.set_cons_zero, List.set_cons_succ]
  refine take_at (i := 2) (v := ?_) rfl (by kernel_rfl) (by kernel_rfl) (by kernel_rfl) (fun _ _ _ h => h) (by rfl) ?_ (by assumption) ?_
  rotate_left
  · (intro wx hSw; go_simp; with_reducible rfl)
  simp only [Act.put, List.setIfInBounds_toArray, List.set_cons_zero, List.set_cons_succ]
  refine take_at (i := 3) (v := ?_) rfl (by kernel_rfl) (by kernel_rfl) (by kernel_rfl) (fun _ _ _ h => h) (by rfl) ?_ (by assumption) ?_
  rotate_left
  · (intro wx hSw; go_simp; with_reducible rfl)
  simp only [Act.put, List.setIfInBounds_toArray, List.set_cons_zero, List.set_cons_succ]
  refine take_at (i := 4) (v := ?_) rfl (by kernel_rfl) (by kernel_rfl) (by kernel_rfl) (fun _ _ _ h => h) (by rfl) ?_ (by assumption) ?_
  rotate_left
  · (intro wx hSw; go_simp; with_reducible rfl)
  simp only [Act.put, List.setIfInBounds_toArray, List.set_cons_zero, List.set_cons_succ]
  refine take_at (i := 5) (v := ?_) rfl (by kernel_rfl) (by kernel_rfl) (by kernel_rfl) (fun _ _ _ h => h) (by rfl) ?_ (by assumption) ?_
  rotate_left
  · (intro wx hSw; go_simp; with_reducible rfl)
  simp only [Act.put, List.setIfInBounds_toArray, List.set_cons_zero, List.set_cons_succ]
  refine take_at (i := 6) (v := ?_) rfl (by kernel_rfl) (by kernel_rfl) (by kernel_rfl) (fun _ _ _ h => h) (by rfl) ?_ (by assumption) ?_
  rotate_left
  · (intro wx hSw; go_simp; with_reducible rfl)
  simp only [Act.put, List.setIfInBounds_toArray, List.set_cons_zero, List.set_cons_succ]
  refine take_at (i := 7) (v := ?_) rfl (by kernel_rfl) (by kernel_rfl) (by kernel_rfl) (fun _ _ _ h => h) (by rfl) ?_ (by assumption) ?_
  rotate_left
  · (intro wx hSw; go_simp; with_reducible rfl)
  simp only [Act.put, List.setIfInBounds_toArray, List.set_cons_zero, List.set_cons_succ]
  refine take_at (i := 9) (v := ?_) rfl (by kernel_rfl) (by kernel_rfl) (by kernel_rfl) (fun _ _ _ h => h) (by rfl) ?_ (by assumption) ?_
  rotate_left
  · (intro wx hSw; go_simp; with_reducible rfl)
  simp only [Act.put, List.setIfInBounds_toArray, List.set_cons_zero, List.set_cons_succ]
  refine take_at (i := 11) (v := ?_) rfl (by kernel_rfl) (by kernel_rfl) (by kernel_rfl) (fun _ _ _ h => h) (by rfl) ?_ (by assumption) ?_
  rotate_left
  · (intro wx hSw; go_simp; with_reducible rfl)
  simp only [Act.put, List.setIfInBounds_toArray, List.set_cons_zero, List.set_cons_succ]
  refine take_at (i := 12) (v := ?_) rfl (by kernel_rfl) (by kernel_rfl) (by kernel_rfl) (fun _ _ _ h => h) (by rfl) ?_ (by assumption) ?_
  rotate_left
  · (intro wx hSw; go_simp; with_reducible rfl)
  simp only [Act.put, List.setIfInBounds_toArray, List.set_cons_zero, List.set_cons_succ]
  refine only_at (i := 8) rfl (by kernel_rfl) (by rfl) (fun K hK => ?_)
  go_simp
  refine hK.out _ _ trivial ?_
  clear hK K
  try simp only [Act.put, List.setIfInBounds_toArray, List.set_cons_zero, List.set_cons_succ]
  refine take_at (i := 10) (v := ?_) rfl (by kernel_rfl) (by kernel_rfl) (by kernel_rfl) (fun _ _ _ h => h) (by rfl) ?_ (by assumption) ?_
  rotate_left
  · (intro wx hSw; go_simp; with_reducible rfl)
  simp only [Act.put, List.setIfInBounds_toArray, List.set_cons_zero, List.set_cons_succ]
  refine take_at (i := 13) (v := ?_) rfl (by kernel_rfl) (by kernel_rfl) (by kernel_rfl) (fun _ _ _ h => h) (by rfl) ?_ (by assumption) ?_
  rotate_left
  · (intro wx hSw; go_simp; with_reducible rfl)
  simp only [Act.put, List.setIfInBounds_toArray, List.set_cons_zero, List.set_cons_succ]
  refine take_at (i := 14) (v := ?_) rfl (by kernel_rfl) (by kernel_rfl) (by kernel_rfl) (fun _ _ _ h => h) (by rfl) ?_ (by assumption) ?_
  rotate_left
  · (intro wx hSw; go_simp; with_reducible rfl)
  simp only [Act.put, List.setIfInBounds_toArray, List.set_cons_zero, List.set_cons_succ]
  refine only_at (i := 15) rfl (by kernel_rfl) (by rfl) (fun K hK => ?_)
  go_simp
  have hmd := h.drew
  have e1 : m.cameAt k all = m1 := hm1e'.out
  obtain ⟨hm2, fr2⟩ := hmd.setCome k hk all
  rw [e1] at hm2
  have frA : Fr q o w1 o (w1.drew.setCell ⟨b, 8 + k * 4 + 1, none⟩ (.string all)) := (Fr.of_below (q := q) h.clean (Below.refl _ _).drew).trans fr2
  refine hK.out _ (w1.drew.setCell ⟨b, 8 + k * 4 + 1, none⟩ (.string all)) trivial ?_
  clear hK K hHeld
  refine wpAnyH_done (by kernel_rfl) ?_ _
  refine NoPanic.normal ?_
  clear hm1 fr1 c1 c2 fz e1 hm1e' fr2 hmd
  generalize w1.drew.setCell ⟨b, 8 + k * 4 + 1, none⟩ (.string all) = w2 at *
  obtain ⟨-, c1, c2, -⟩ := hm2.linec hk
  rw [hcome2] at c1
  rw [hcome] at c2
  go_wp2_with fail
  refine (kr.out _).mono ?_
  rintro e w3 ⟨v, rfl, own, hb3⟩
  have hm3 := hm2.below hb3
  have frB := frA.below hb3
  have hrow : Row o w3 (0, 0) 101 3 v l.length (rowOf l) := ⟨own_mono own (Nat.zero_le _), fun g hgv => hm2.clean g (own.lt g hgv).1⟩
  clear c1 c2 own hb3 kr
  obtain ⟨av, cv, rfl, hln, -⟩ := hrow.form
  obtain ⟨-, -, c2, -⟩ := hm3.linec hk
  rw [hcome] at c2
  go_wp2
  clear c2
  go_loopw [11] (fun i w' => ∃ (M : RM) (n : Nat) (o' : Nat → Tag) (lv' : Nat → Value) (kv' qv' : Value), i = .int .i64 n ∧ t0 ≤ n ∧ n ≤ l.length ∧ RMem o' q w' b M lv' kv' qv' ∧ Fr q o w1 o' w' ∧ Row o' w' (0, 0) 101 3 (.slice av l.length cv) l.length (rowOf l) ∧ RM.feedL k (l.drop t0) m1 t0 = RM.feedL k (l.drop n) M n ∧ M.good (K + n) (Q + n) (S + n)) (fun i _ => l.length - (intOf i).toNat)
  case atStart => exact ⟨m1, t0, o, lv, kv, qv, rfl, Nat.le_refl _, htook, hm3, frB, hrow, rfl, hg1.mono (by omega) (by omega) (by omega)⟩
  case round =>
    obtain ⟨M, n, o1, lv1, kv1, qv1, rfl, hn0, hn, hm, hfr, hrw, heq, hgd⟩ := hrel
    clear h hm3 frB hrow hg1 hm2 frA k1 hcome hcome2 hg hchk htook
    have HEQ : Hid _ := heq
    clear heq
    by_cases hlt : n < l.length
    · obtain ⟨av', cv', e', -, hav⟩ := hrw.form
      simp only [Value.slice.injEq, true_and] at e'
      obtain ⟨rfl, rfl⟩ := e'
      obtain ⟨g, rfl, hgt, hgl⟩ := hav (by omega)
      obtain ⟨p0, p1, p2⟩ := own_recs hrw.1 n hlt
      obtain ⟨hr1, hr2⟩ := hrec l[n] (List.getElem_mem hlt)
      have HST : Hid (RM.feedL k (l.drop n) M n = cond (l[n].1 == 1 && (M.find k l[n].2.1).isSome) (M.close k, true) (RM.feedL k (l.drop (n + 1)) (M.one k n l[n]) (n + 1))) := by
        show _ = _
        rw [List.drop_eq_getElem_cons hlt]
        rfl
      have HP : Hid (∀ (o' : Nat → Tag) w', Row o' w' (0, 0) 101 3 (.slice (some ⟨g, 0, none⟩) l.length cv) l.length (rowOf l) → w'.cell? ⟨g, n * 3, none⟩ = some (.int .i64 l[n].1) ∧ w'.cell? ⟨g, n * 3 + 1, none⟩ = some (.int .i64 l[n].2.1) ∧ w'.cell? ⟨g, n * 3 + 2, none⟩ = some (.string l[n].2.2)) := fun o' w' h' => own_recs h'.1 n hlt
      clear hrec
      generalize l[n] = r at *
      have hfd := fun (a : Nat) (e : M.find k r.2.1 = some a) => RM.find_some e
      have kfi : Hid (∀ w', RMem o1 q w' b M lv1 kv1 qv1 → Calls Tryz.prog 79 #[.pointer (some ⟨b, 0, none⟩), .int .i64 k, .int .i64 r.2.1] w' fun e w'' => e = .returned (.int .i64 (plcI (M.find k r.2.1))) ∧ w'' = w') := fun w' h' => rFind_any h' k r.2.1
      have htk := hgd.took k (n + 1)
      have hset := fun w' (h' : RMem o1 q w' b M lv1 kv1 qv1) => h'.setTook k hk (n + 1)
      have ha : plcI (M.find k r.2.1) = -1 ∨ ∃ a, ∃ ha : a < M.keys.length, plcI (M.find k r.2.1) = (a : Nat) ∧ M.keys[a].conn = k ∧ M.keys[a].body.size + r.2.2.size ≤ 1000000000 := by
        cases hf : M.find k r.2.1 with
        | none => exact .inl rfl
        | some a =>
          obtain ⟨h1, h2, -, h4⟩ := hfd a hf
          refine .inr ⟨a, h1, rfl, h2, ?_⟩
          have := hgd.fit a
          rw [M.key_eq h1] at this
          rcases this with e | e
          · exact absurd e h4
          · omega
      clear hfd
      have hsome : (M.find k r.2.1).isSome = decide (0 ≤ plcI (M.find k r.2.1)) := by cases M.find k r.2.1 <;> simp [plcI]
      have hneg : plcI (M.find k r.2.1) < 0 → plcI (M.find k r.2.1) = -1 := by cases M.find k r.2.1 <;> simp [plcI]
      rw [hsome] at HST
      clear hsome
      generalize hpl : plcI (M.find k r.2.1) = pl at *
      have HPL : Hid _ := hpl
      clear hpl
      have hbg : b ≠ g := by
        rintro rfl
        rw [hm.tag] at hgt
        exact hq (congrArg Prod.fst hgt)
      have hbg' : g ≠ b := fun e => hbg e.symm
      have fz := hm.frozen
      obtain ⟨-, -, ct, -⟩ := hm.linec hk
      have hlI : (n : Int) < l.length := by omega
      by_cases hA : r.1 = 1 ∧ 0 ≤ pl
      · obtain ⟨hA1, hA2⟩ := hA
        have hA1' : (r.1 == 1) = true := by simp [hA1]
        have HV : Hid (RM.feedL k (l.drop t0) m1 t0 = (M.close k, true)) := by
          show _ = _
          rw [HEQ.out, HST.out, hA1', decide_eq_true hA2]
          rfl
        clear HST HEQ
        go_wp2_with fail
        refine (kfi.out _ hm).mono ?_
        rintro e w5 ⟨rfl, rfl⟩
        go_wp2_with fail
        refine (rClose_any hm k hk).mono ?_
        rintro e w6 ⟨rfl, hm6, fr6⟩
        go_wp2
        go_ret
        rw [HV.out]
        first | exact ⟨rfl, o1, lv1, kv1, qv1, hm6, hfr.trans fr6⟩ | exact ⟨rfl, o1, ⟨lv1, kv1, qv1, hm6⟩, hfr.trans fr6⟩
      · have HV : Hid (RM.feedL k (l.drop t0) m1 t0 = RM.feedL k (l.drop (n + 1)) (M.one k n r) (n + 1)) := by
          show _ = _
          rw [HEQ.out, HST.out]
          have : (r.1 == 1 && decide (0 ≤ pl)) = false := by
            cases h1 : (r.1 == 1)
            · rfl
            · simp only [beq_iff_eq] at h1
              have : ¬ 0 ≤ pl := fun e => hA ⟨h1, e⟩
              simp [this]
          rw [this]
          rfl
        clear HST HEQ
        have hbr : (r.1 == 1) = false ∨ (r.1 = 1 ∧ pl < 0) := by
          by_cases h1 : r.1 = 1
          · exact .inr ⟨h1, Int.lt_of_not_ge fun e => hA ⟨h1, e⟩⟩
          · exact .inl (by simpa using h1)
        clear hA
        have hmT := fun w' (h' : RMem o1 q w' b M lv1 kv1 qv1) => (h'.setTook k hk (n + 1))
        have hsent := htk.sent k
        have hks := htk.keys
        have hqs := htk.queue
        have HT : Hid (∀ w', RMem o1 q w' b (M.tookAt k (n + 1)) lv1 kv1 qv1 → Calls Tryz.prog 80 #[.pointer (some ⟨b, 0, none⟩), .int .i64 k, .agg #[.int .i64 r.1, .int .i64 r.2.1, .string r.2.2], .int .i64 pl] w' fun e w'' => e = .returned (.tuple #[]) ∧ ∃ o' lv' kv' qv', RMem o' q w'' b ((M.tookAt k (n + 1)).take k r.1 r.2.1 r.2.2 pl) lv' kv' qv' ∧ Fr q o1 w' o' w'') := fun w' h' => rTake_any h' htk.wf hq k hk r.1 r.2.1 r.2.2 hr1 pl ha (by omega) (by omega) (by omega)
        have hone : Hid (((M.tookAt k (n + 1)).take k r.1 r.2.1 r.2.2 pl).good (K + n + 1) (Q + n + 1) (S + n + 1)) := htk.take k r.1 r.2.1 r.2.2 pl (ha.elim (fun e => .inl (by rw [e]; omega)) (fun ⟨a, h1, e, _⟩ => .inr (by rw [e]; simpa [RM.tookAt] using h1)))
        have hfin : Hid (((M.tookAt k (n + 1)).take k r.1 r.2.1 r.2.2 pl).settle = M.one k n r) := by
          show _ = _
          rw [← HPL.out]
          rfl
        generalize (M.tookAt k (n + 1)).take k r.1 r.2.1 r.2.2 pl = M2 at *
        have hgo := hgd.one k n r
        clear ha hsent hks hqs htk hset hneg hr1 hr2 hgd
        rcases hbr with hB | ⟨hB1, hB2⟩
        · go_wp2_with fail
          refine (kfi.out _ hm).mono ?_
          rintro e w5 ⟨rfl, rfl⟩
          go_wp2_with fail
          obtain ⟨hm5, fr5⟩ := hmT _ hm
          refine (HT.out _ hm5).mono ?_
          rintro e w6 ⟨rfl, o6, lv6, kv6, qv6, hm6, fr6⟩
          have hrw6 := (hrw.fr fr5 (by exact fun e => hq e.symm)).fr fr6 (by exact fun e => hq e.symm)
          clear p0 p1 p2 ct fz
          go_wp2_with fail
          refine (rSettle_any hm6 hone.out.wf (by have := hone.out.queue; omega)).mono ?_
          rintro e w7 ⟨rfl, hm7, fr7⟩
          rw [hfin.out] at hm7
          have hrw7 := hrw6.fr fr7 (by exact fun e => hq e.symm)
          go_wp2
          exact ⟨⟨M.one k n r, n + 1, o6, lv6, kv6, qv6, by go_num, by omega, by omega, hm7, ((hfr.trans fr5).trans fr6).trans fr7, hrw7, HV.out, hgo⟩, by simp [intOf]; omega⟩
        · have HT2 := HT.out
          rw [hB1] at HT2
          have HT3 : Hid _ := HT2
          clear HT HT2
          go_wp2_with fail
          refine (kfi.out _ hm).mono ?_
          rintro e w5 ⟨rfl, rfl⟩
          go_wp2_with fail
          obtain ⟨hm5, fr5⟩ := hmT _ hm
          refine (HT3.out _ hm5).mono ?_
          rintro e w6 ⟨rfl, o6, lv6, kv6, qv6, hm6, fr6⟩
          have hrw6 := (hrw.fr fr5 (by exact fun e => hq e.symm)).fr fr6 (by exact fun e => hq e.symm)
          clear p0 p1 p2 ct fz
          go_wp2_with fail
          refine (rSettle_any hm6 hone.out.wf (by have := hone.out.queue; omega)).mono ?_
          rintro e w7 ⟨rfl, hm7, fr7⟩
          rw [hfin.out] at hm7
          have hrw7 := hrw6.fr fr7 (by exact fun e => hq e.symm)
          go_wp2
          exact ⟨⟨M.one k n r, n + 1, o6, lv6, kv6, qv6, by go_num, by omega, by omega, hm7, ((hfr.trans fr5).trans fr6).trans fr7, hrw7, HV.out, hgo⟩, by simp [intOf]; omega⟩
    · have hne : n = l.length := by omega
      have HV : Hid (RM.feedL k (l.drop t0) m1 t0 = (M, false)) := by
        show _ = _
        rw [HEQ.out, hne, List.drop_length]
        rfl
      clear HEQ
      have hnI : ¬ ((n : Int) < l.length) := by omega
      cases bad
      · go_wp2
        go_ret
        rw [HV.out]
        first | exact ⟨rfl, o1, lv1, kv1, qv1, hm, hfr⟩ | exact ⟨rfl, o1, ⟨lv1, kv1, qv1, hm⟩, hfr⟩
      · go_wp2_with fail
        refine (rClose_any hm k hk).mono ?_
        rintro e w6 ⟨rfl, hm6, fr6⟩
        go_wp2
        go_ret
        rw [HV.out]
        first | exact ⟨rfl, o1, lv1, kv1, qv1, hm6, hfr.trans fr6⟩ | exact ⟨rfl, o1, ⟨lv1, kv1, qv1, hm6⟩, hfr.trans fr6⟩
end
end Go.Proofs.YtmjnengplfoiiaaGreat

namespace Go.Proofs.YtmjnengplfoiiaaGreat
open Go.RowKit

/-- What the program's foreman shows is what the document's shows. -/
structure Same (m : PM) (M : RM) : Prop where
  op : ∀ n, m.open_ n = M.open_ n
  sent : ∀ n, m.sent_ n = M.sent_ n
  slot : ∀ n, M.slotV n = m.slotV n
  job : ∀ n, M.jobV n = m.jobV n
  jobE : ∀ n, M.stE n 3 = m.jobE n
  waits : M.waits = m.waits
  time : m.time = M.time

theorem slotV_agg (m : PM) (n : Int) : ∃ st old served since conn id, m.slotV n = .agg #[.int .i64 st, .bool old, .int .i64 served, .int .i64 since, .int .i64 conn, .int .i64 id] := by
  unfold PM.slotV
  cases isS n
  · exact ⟨0, false, 0, 0, 0, 0, rfl⟩
  · exact ⟨_, _, _, _, _, _, rfl⟩

section
variable {o : Nat → Tag} {w : World} {gb fb wb : Nat} {ls ts : List Value} {lv tv : Value} {m : PM} {sv : Nat → Value} {rv : Value} {M : RM} {nv : Nat → Value} {kv qv : Value}

set_option maxRecDepth 100000 in
set_option maxHeartbeats 2000000 in
theorem looks_any (h : Trio o w gb fb wb ls ts lv tv m sv rv M nv kv qv) (hwf : M.wf) (hlv : ∀ k, k < 6 → M.live k = false) (hS : Same m M)
    (hs : ∀ k, k < 4 → (M.line k).sent.length ≤ 1000000000000) (h1 : m.req.length ≤ 100000000000) (h2 : M.queue.length ≤ 100000000000) (h3 : ls.length ≤ 10000000000) :
    Calls Tryz.prog 9 #[.pointer (some ⟨gb, 0, none⟩)] w fun r w' => r = .returned (.bool true) ∧ ∃ o' ls' ts' lv' tv', Trio o' w' gb fb wb ls' ts' lv' tv' m sv rv M nv kv qv ∧ Fr 3 o w o' w' ∧ ls'.length = ls.length + 1 := by
  go_enter Tryz.func9, Tryz.ntmps9
  go_wp2
  go_loopw [3, 4] (fun s i w' => ∃ j : Nat, j ≤ 6 ∧ s = .bool true ∧ i = .int .i64 ((j : Int) - 1) ∧ Below w.heap.size w w') (fun _ i _ => 6 - (intOf i + 1).toNat)
  case atStart => exact ⟨0, by omega, rfl, by simp, Below.refl _ _⟩
  case round =>
    obtain ⟨j, hj, rfl, rfl, hb⟩ := hrel
    by_cases hlt : j < 6
    · go_wp2_with fail
      refine (line_any (h.below hb) _ (hS.op _) (hS.sent _) hs).mono ?_
      rintro e w1 ⟨rfl, hb1⟩
      go_wp2
      exact ⟨⟨j + 1, by omega, rfl, by go_num, hb.trans (hb1.mono hb.size)⟩, by simp [intOf]; omega⟩
    · have : j = 6 := by omega
      subst this
      clear hlt hj
      rw [show (((6 : Nat) : Int) - 1) = 5 from rfl]
      go_wp2
      go_loopw [3, 5] (fun s i w' => ∃ j : Nat, j ≤ 8 ∧ s = .bool true ∧ i = .int .i64 ((j : Int) - 1) ∧ Below w.heap.size w w') (fun _ i _ => 8 - (intOf i + 1).toNat)
      case atStart => exact ⟨0, by omega, rfl, by simp, hb⟩
      case round =>
        clear hb
        obtain ⟨j, hj, rfl, rfl, hb⟩ := hrel
        by_cases hlt : j < 8
        · go_wp2_with fail
          refine (gslot_any (h.below hb) hwf hlv _ (hS.slot _) (hS.job _) (hS.jobE _) (slotV_agg m _)).mono ?_
          rintro e w1 ⟨rfl, hb1⟩
          go_wp2
          exact ⟨⟨j + 1, by omega, rfl, by go_num, hb.trans (hb1.mono hb.size)⟩, by simp [intOf]; omega⟩
        · have : j = 8 := by omega
          subst this
          clear hlt hj
          rw [show (((8 : Nat) : Int) - 1) = 7 from rfl]
          have ht := h.below hb
          have hc := h.f.clean
          go_wp2_with fail
          refine (gbacklog_any ht hwf hS.waits h1 h2 (by omega)).mono ?_
          rintro e w2 ⟨rfl, o', ls', ts', lv', tv', t2, fr2, hl2⟩
          have c0 := t2.g.fc
          have c1 := t2.g.wc
          have c2 := t2.g.lc
          have c3 := t2.g.tc
          clear ht
          go_wp2_with fail
          refine (time_any t2.f).mono ?_
          rintro e w3 ⟨rfl, rfl⟩
          go_wp2_with fail
          refine (rTime_any t2.r).mono ?_
          rintro e w4 ⟨rfl, rfl⟩
          go_wp2_with fail
          refine (marked_any 1 (.inl rfl) t2.g.lists (by omega) (fun k hk => by obtain ⟨n, hn⟩ := t2.g.ml k hk; exact ⟨n, by simpa using hn.1⟩)).mono ?_
          rintro e w5 ⟨rfl, hb5⟩
          have t5 := t2.below hb5
          clear c0 c1 c2 c3
          have c3 := t5.g.tc
          have hlt3 := t5.g.len
          have hlt4 : ts'.length ≤ 1000000000000 := by omega
          clear hlt3
          go_wp2_with fail
          refine (marked_any 3 (.inr rfl) t5.g.tails hlt4 (fun k hk => by obtain ⟨n, hn⟩ := t5.g.mt k hk; exact ⟨n, hn.1⟩)).mono ?_
          rintro e w6 ⟨rfl, hb6⟩
          have t6 := t5.below hb6
          have htm := hS.time
          clear c3
          go_wp2
          go_ret
          refine ⟨by simp, o', ls', ts', lv', tv', t6, ?_, hl2⟩
          exact (((Fr.of_below hc hb).trans fr2).below hb5).below hb6
end
end Go.Proofs.YtmjnengplfoiiaaGreat

namespace Go.Proofs.YtmjnengplfoiiaaGreat
open Go.RowKit

section
variable {o : Nat → Tag} {q : Nat} {w : World} {b : Nat} {m : RM} {lv : Nat → Value} {kv qv : Value}

set_option maxRecDepth 100000 in
set_option maxHeartbeats 8000000 in
theorem rSlot_live (h : RMem o q w b m lv kv qv) (hwf : m.wf) (k : Nat) (hk : k < 6) (hlive : m.live k = true) :
    Calls Tryz.prog 36 #[.pointer (some ⟨b, 0, none⟩), .int .i64 (k : Nat)] w fun r w' => r = .returned (.tuple #[.agg #[.int .i64 (m.slot k).st, .bool (m.slot k).old, .int .i64 (m.slot k).served, .int .i64 (m.slot k).since, .int .i64 (m.key (m.slot k).key).conn, .int .i64 (m.key (m.slot k).key).id], .int .i64 0]) ∧ Below w.heap.size w w' := by
  have h0 : isS (k : Int) = true := by simp [isS]; omega
  have hA := fun ob => (h.alloc ob).slotc hk
  have c0 := fun ob => (hA ob).1
  have c1 := fun ob => (hA ob).2.1
  have c2 := fun ob => (hA ob).2.2.1
  have c3 := fun ob => (hA ob).2.2.2.1
  have c4 := fun ob => (hA ob).2.2.2.2
  clear hA
  have hst : (m.slot k).st = 3 := by simp [RM.live] at hlive; exact hlive.1
  have hkey := hwf.s k hk hst
  clear hst
  obtain ⟨ak, ck, rfl, hkn, hkrow⟩ := h.klist
  obtain ⟨gk, rfl, hgk, hgb, -, -, g0, g1, -, -⟩ := hkrow _ hkey
  have hkv := h.keysv
  have hbl := h.blk.lt
  have hkeyI : ((m.slot k).key : Int) < m.keys.length := by omega
  rw [← m.key_eq hkey] at g0 g1
  clear hkrow
  have hc : Hid (∀ w', RMem o q w' b m lv (.slice (some ⟨gk, 0, none⟩) m.keys.length ck) qv → Calls Tryz.prog 55 #[.pointer (some ⟨b, 0, none⟩), .int .i64 k] w' fun r w'' => r = .returned (.bool true) ∧ Below w'.heap.size w' w'') := fun w' h' => hlive ▸ live_any h' hwf k hk
  generalize (m.key (m.slot k).key).conn = cn at *
  generalize (m.key (m.slot k).key).id = ci at *
  go_enter Tryz.func36, Tryz.ntmps36
  go_wp2_with fail
  refine (rIsSlot_any _ _).mono ?_
  rintro e w1 ⟨rfl, rfl⟩
  rw [h0]
  go_wp2_with fail
  refine (hc.out _ (((h.alloc _).alloc _).alloc _)).mono ?_
  rintro e w2 ⟨rfl, hb⟩
  obtain ⟨k0, k1, k2, kb⟩ := three_blks w [.int .i64 0, .bool false, .int .i64 0, .int .i64 0, .int .i64 0, .int .i64 0] [.int .i64 (m.slot k).st, .int .i64 (m.slot k).served, .int .i64 (m.slot k).since, .bool (m.slot k).old, .int .i64 (m.slot k).key] [.int .i64 (m.slot k).st, .bool (m.slot k).old, .int .i64 (m.slot k).served, .int .i64 (m.slot k).since, .int .i64 (-1), .int .i64 0] 58 70 58
  have j0 := k0.below hb
  have j1 := k1.below hb
  have j2 := k2.below hb
  have hbb : Below w.heap.size w w2 := kb.trans (hb.mono (by simp; omega))
  clear k0 k1 k2 kb hb c0 c1 c2 c3 c4 hc hlive
  rw [← hbb.cell (by exact hbl)] at hkv
  rw [← hbb.cell (by exact hgk)] at g0 g1
  have p4 := j1.cell (k := 4) (u := .int .i64 (m.slot k).key) rfl
  generalize (m.slot k).key = key at *
  have hN1 : w.heap.size ≠ w.heap.size + 1 + 1 := by omega
  have hB2 : b ≠ w.heap.size + 1 + 1 := by omega
  have hG2 : gk ≠ w.heap.size + 1 + 1 := by omega
  have hP2 : w.heap.size + 1 ≠ w.heap.size + 1 + 1 := by omega
  have a4 := j2.cell (k := 4) (u := .int .i64 (-1)) rfl
  have fx := j2.frozen
  have HS1 : Hid (∀ u, (w2.drew.setCell ⟨w.heap.size + 1 + 1, 4, none⟩ u).cell? ⟨b, 54, none⟩ = some (.slice (some ⟨gk, 0, none⟩) m.keys.length ck) ∧ (w2.drew.setCell ⟨w.heap.size + 1 + 1, 4, none⟩ u).cell? ⟨w.heap.size + 1, 4, none⟩ = some (.int .i64 key) ∧ (w2.drew.setCell ⟨w.heap.size + 1 + 1, 4, none⟩ u).cell? ⟨gk, key * 4, none⟩ = some (.int .i64 cn) ∧ (w2.drew.setCell ⟨w.heap.size + 1 + 1, 4, none⟩ u).cell? ⟨gk, key * 4 + 1, none⟩ = some (.int .i64 ci)) := fun u => ⟨(World.cell?_of_block (Below.heap_setCell _ _ _ b hB2)).trans hkv, (World.cell?_of_block (Below.heap_setCell _ _ _ _ hP2)).trans p4, (World.cell?_of_block (Below.heap_setCell _ _ _ gk hG2)).trans g0, (World.cell?_of_block (Below.heap_setCell _ _ _ gk hG2)).trans g1⟩
  go_wp2_with fail
  go_region_held3 (fun w' => w'.cell? ⟨b, 54, none⟩ = some (.slice (some ⟨gk, 0, none⟩) m.keys.length ck) ∧ w'.cell? ⟨w.heap.size + 1, 4, none⟩ = some (.int .i64 key) ∧ w'.cell? ⟨gk, key * 4, none⟩ = some (.int .i64 cn) ∧ w'.cell? ⟨gk, key * 4 + 1, none⟩ = some (.int .i64 ci)) (first | exact ⟨hkv, p4, g0, g1⟩ | exact HS1.out _) (fail)
  have j2' := j2.set 4 (.int .i64 cn)
  have j0' : Blk (w2.setCell ⟨w.heap.size + 1 + 1, 4, none⟩ (.int .i64 cn)).drew w.heap.size 58 [.int .i64 0, .bool false, .int .i64 0, .int .i64 0, .int .i64 0, .int .i64 0] := j0.keep (Below.heap_setCell _ _ _ _ hN1)
  have j2'' : Blk (w2.setCell ⟨w.heap.size + 1 + 1, 4, none⟩ (.int .i64 cn)).drew (w.heap.size + 1 + 1) 58 [.int .i64 (m.slot k).st, .bool (m.slot k).old, .int .i64 (m.slot k).served, .int .i64 (m.slot k).since, .int .i64 cn, .int .i64 0] := j2'
  have hs1 := HS1.out (.int .i64 cn)
  obtain ⟨hkv', p4', g0', g1'⟩ : (w2.setCell ⟨w.heap.size + 1 + 1, 4, none⟩ (.int .i64 cn)).drew.cell? ⟨b, 54, none⟩ = some (.slice (some ⟨gk, 0, none⟩) m.keys.length ck) ∧ (w2.setCell ⟨w.heap.size + 1 + 1, 4, none⟩ (.int .i64 cn)).drew.cell? ⟨w.heap.size + 1, 4, none⟩ = some (.int .i64 key) ∧ (w2.setCell ⟨w.heap.size + 1 + 1, 4, none⟩ (.int .i64 cn)).drew.cell? ⟨gk, key * 4, none⟩ = some (.int .i64 cn) ∧ (w2.setCell ⟨w.heap.size + 1 + 1, 4, none⟩ (.int .i64 cn)).drew.cell? ⟨gk, key * 4 + 1, none⟩ = some (.int .i64 ci) := hs1
  have hbb' : Below w.heap.size w (w2.setCell ⟨w.heap.size + 1 + 1, 4, none⟩ (.int .i64 cn)).drew := (hbb.setCell (by simp; omega) _).drew
  clear hkv p4 g0 g1 a4 fx HS1 j0 j1 j2 j2' hbb
  generalize (w2.setCell ⟨w.heap.size + 1 + 1, 4, none⟩ (.int .i64 cn)).drew = w3 at *
  have a5 := j2''.cell (k := 5) (u := .int .i64 0) rfl
  have fx := j2''.frozen
  have HS2 : Hid (∀ u, (w3.drew.setCell ⟨w.heap.size + 1 + 1, 5, none⟩ u).cell? ⟨b, 54, none⟩ = some (.slice (some ⟨gk, 0, none⟩) m.keys.length ck) ∧ (w3.drew.setCell ⟨w.heap.size + 1 + 1, 5, none⟩ u).cell? ⟨w.heap.size + 1, 4, none⟩ = some (.int .i64 key) ∧ (w3.drew.setCell ⟨w.heap.size + 1 + 1, 5, none⟩ u).cell? ⟨gk, key * 4 + 1, none⟩ = some (.int .i64 ci)) := fun u => ⟨(World.cell?_of_block (Below.heap_setCell _ _ _ b hB2)).trans hkv', (World.cell?_of_block (Below.heap_setCell _ _ _ _ hP2)).trans p4', (World.cell?_of_block (Below.heap_setCell _ _ _ gk hG2)).trans g1'⟩
  go_wp2_with fail
  go_region_held3 (fun w' => w'.cell? ⟨b, 54, none⟩ = some (.slice (some ⟨gk, 0, none⟩) m.keys.length ck) ∧ w'.cell? ⟨w.heap.size + 1, 4, none⟩ = some (.int .i64 key) ∧ w'.cell? ⟨gk, key * 4 + 1, none⟩ = some (.int .i64 ci)) (first | exact ⟨hkv', p4', g1'⟩ | exact HS2.out _) (fail)
  have j5 : Blk (w3.setCell ⟨w.heap.size + 1 + 1, 5, none⟩ (.int .i64 ci)).drew (w.heap.size + 1 + 1) 58 [.int .i64 (m.slot k).st, .bool (m.slot k).old, .int .i64 (m.slot k).served, .int .i64 (m.slot k).since, .int .i64 cn, .int .i64 ci] := j2''.set 5 (.int .i64 ci)
  have j6 : Blk (w3.setCell ⟨w.heap.size + 1 + 1, 5, none⟩ (.int .i64 ci)).drew w.heap.size 58 [.int .i64 0, .bool false, .int .i64 0, .int .i64 0, .int .i64 0, .int .i64 0] := j0'.keep (Below.heap_setCell _ _ _ _ hN1)
  have hb6 : Below w.heap.size w (w3.setCell ⟨w.heap.size + 1 + 1, 5, none⟩ (.int .i64 ci)).drew := (hbb'.setCell (by simp; omega) _).drew
  clear hkv' p4' g0' g1' a5 fx HS2 j0' j2'' hbb'
  generalize (w3.setCell ⟨w.heap.size + 1 + 1, 5, none⟩ (.int .i64 ci)).drew = w4 at *
  have a0 := j5.cell (k := 0) (u := .int .i64 (m.slot k).st) rfl
  have a1 := j5.cell (k := 1) (u := .bool (m.slot k).old) rfl
  have a2 := j5.cell (k := 2) (u := .int .i64 (m.slot k).served) rfl
  have a3 := j5.cell (k := 3) (u := .int .i64 (m.slot k).since) rfl
  have a4 := j5.cell (k := 4) (u := .int .i64 cn) rfl
  have a5 := j5.cell (k := 5) (u := .int .i64 ci) rfl
  have d0 := j6.cell (k := 0) (u := .int .i64 0) rfl
  have d1 := j6.cell (k := 1) (u := .bool false) rfl
  have d2 := j6.cell (k := 2) (u := .int .i64 0) rfl
  have d3 := j6.cell (k := 3) (u := .int .i64 0) rfl
  have d4 := j6.cell (k := 4) (u := .int .i64 0) rfl
  have d5 := j6.cell (k := 5) (u := .int .i64 0) rfl
  have fz := j6.frozen
  go_wp2
  refine bodyPost_ret (v := .tuple #[.agg #[.int .i64 (m.slot k).st, .bool (m.slot k).old, .int .i64 (m.slot k).served, .int .i64 (m.slot k).since, .int .i64 cn, .int .i64 ci], .int .i64 0]) (by simp [results, Tryz.results36, go_sem, d0, d1, d2, d3, d4, d5]) rfl ⟨rfl, ?_⟩
  repeat (first | refine Below.setCell ?_ (by simp) _ | exact hb6)

set_option maxRecDepth 100000 in
set_option maxHeartbeats 2000000 in
theorem rSlot_dead (h : RMem o q w b m lv kv qv) (hwf : m.wf) (n : Int) (hlv : isS n = false ∨ m.live n.toNat = false) :
    Calls Tryz.prog 36 #[.pointer (some ⟨b, 0, none⟩), .int .i64 n] w fun r w' => r = .returned (.tuple #[m.slotV n, .int .i64 (slotE n)]) ∧ Below w.heap.size w w' := by
  rcases isS_cases n with h0 | ⟨h0, k, hk, rfl⟩
  · simp only [RM.slotV, slotE, h0, cond_false]
    go_enter Tryz.func36, Tryz.ntmps36
    go_wp2_with fail
    refine (rIsSlot_any _ _).mono ?_
    rintro e w1 ⟨rfl, rfl⟩
    rw [h0]
    go_wp2
    exact bodyPost_ret (v := .tuple #[slotNil, .int .i64 5]) (by simp [results, Tryz.results36, go_sem, slotNil]) rfl ⟨rfl, (Below.refl _ _).alloc (Nat.le_refl _) _⟩
  · simp only [RM.slotV, slotE, h0, cond_true, Int.toNat_natCast]
    have hA := fun ob => (h.alloc ob).slotc hk
    have c0 := fun ob => (hA ob).1
    have c1 := fun ob => (hA ob).2.1
    have c2 := fun ob => (hA ob).2.2.1
    have c3 := fun ob => (hA ob).2.2.2.1
    have c4 := fun ob => (hA ob).2.2.2.2
    clear hA
    cases hlive : m.live k
    · simp only [RM.connOf, RM.idOf, hlive, cond_false]
      have hc : Hid (∀ w', RMem o q w' b m lv kv qv → Calls Tryz.prog 55 #[.pointer (some ⟨b, 0, none⟩), .int .i64 k] w' fun r w'' => r = .returned (.bool false) ∧ Below w'.heap.size w' w'') := fun w' h' => hlive ▸ live_any h' hwf k hk
      go_enter Tryz.func36, Tryz.ntmps36
      go_wp2_with fail
      refine (rIsSlot_any _ _).mono ?_
      rintro e w1 ⟨rfl, rfl⟩
      rw [h0]
      go_wp2_with fail
      refine (hc.out _ (((h.alloc _).alloc _).alloc _)).mono ?_
      rintro e w2 ⟨rfl, hb⟩
      obtain ⟨k0, k1, k2, kb⟩ := three_blks w [.int .i64 0, .bool false, .int .i64 0, .int .i64 0, .int .i64 0, .int .i64 0] [.int .i64 (m.slot k).st, .int .i64 (m.slot k).served, .int .i64 (m.slot k).since, .bool (m.slot k).old, .int .i64 (m.slot k).key] [.int .i64 (m.slot k).st, .bool (m.slot k).old, .int .i64 (m.slot k).served, .int .i64 (m.slot k).since, .int .i64 (-1), .int .i64 0] 58 70 58
      have j0 := k0.below hb
      have j2 := k2.below hb
      have hbb : Below w.heap.size w w2 := kb.trans (hb.mono (by simp; omega))
      clear k0 k1 k2 kb hb c0 c1 c2 c3 c4 hc
      have a0 := j2.cell (k := 0) rfl
      have a1 := j2.cell (k := 1) rfl
      have a2 := j2.cell (k := 2) rfl
      have a3 := j2.cell (k := 3) rfl
      have a4 := j2.cell (k := 4) rfl
      have a5 := j2.cell (k := 5) rfl
      have d0 := j0.cell (k := 0) rfl
      have d1 := j0.cell (k := 1) rfl
      have d2 := j0.cell (k := 2) rfl
      have d3 := j0.cell (k := 3) rfl
      have d4 := j0.cell (k := 4) rfl
      have d5 := j0.cell (k := 5) rfl
      have fz := j0.frozen
      go_wp2
      refine bodyPost_ret (v := .tuple #[.agg #[.int .i64 (m.slot k).st, .bool (m.slot k).old, .int .i64 (m.slot k).served, .int .i64 (m.slot k).since, .int .i64 (-1), .int .i64 0], .int .i64 0]) (by simp [results, Tryz.results36, go_sem, d0, d1, d2, d3, d4, d5]) rfl ⟨rfl, ?_⟩
      repeat (first | refine Below.setCell ?_ (by simp) _ | exact hbb)
    · rcases hlv with e | e
      · rw [h0] at e; cases e
      · simp only [Int.toNat_natCast] at e; rw [hlive] at e; cases e

/-- Slot, whole. -/
theorem rSlot_all (h : RMem o q w b m lv kv qv) (hwf : m.wf) (n : Int) :
    Calls Tryz.prog 36 #[.pointer (some ⟨b, 0, none⟩), .int .i64 n] w fun r w' => r = .returned (.tuple #[m.slotV n, .int .i64 (slotE n)]) ∧ Below w.heap.size w w' := by
  by_cases hd : isS n = true ∧ m.live n.toNat = true
  · obtain ⟨h0, hl⟩ := hd
    rcases isS_cases n with e | ⟨-, k, hk, rfl⟩
    · rw [h0] at e; cases e
    · simp only [Int.toNat_natCast] at hl
      have := rSlot_live h hwf k hk hl
      simpa [RM.slotV, slotE, h0, RM.connOf, RM.idOf, hl] using this
  · exact rSlot_dead h hwf n (by
      cases h0 : isS n
      · exact .inl rfl
      · right
        cases hl : m.live n.toNat
        · rfl
        · exact absurd ⟨h0, hl⟩ hd)
end
end Go.Proofs.YtmjnengplfoiiaaGreat
