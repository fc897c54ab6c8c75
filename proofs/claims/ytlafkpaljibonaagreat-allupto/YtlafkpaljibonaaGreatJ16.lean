import Derived.Test.YtlafkpaljibonaaGreatJ15
import Derived.Test.YtlafkpaljibonaaGreatJ11
import Derived.Test.YtlafkpaljibonaaGreatJ4
import Derived.Laws.StructEq
namespace Go.Proofs.YtlafkpaljibonaaGreat
open Go.RowKit

/-- A connection is open, and holds back, as it did. -/
def ConSame (m m' : PM) : Prop := ∀ j, (m'.con j).op = (m.con j).op ∧ (m'.con j).rest = (m.con j).rest

theorem ConSame.refl (m : PM) : ConSame m m := fun _ => ⟨rfl, rfl⟩
theorem ConSame.trans {a b c : PM} (h : ConSame a b) (k : ConSame b c) : ConSame a c := fun j => ⟨(k j).1.trans (h j).1, (k j).2.trans (h j).2⟩
theorem ConSame.of_eq {m m' : PM} (h : m'.con = m.con) : ConSame m m' := fun j => by rw [h]; exact ⟨rfl, rfl⟩

theorem ConSame.sendB (m : PM) (k : Nat) (s : ByteArray) : ConSame m (m.sendB k s) := by
  intro j
  simp only [PM.sendB, upd]
  split
  · rename_i e; subst e; exact ⟨rfl, rfl⟩
  · exact ⟨rfl, rfl⟩

theorem ConSame.endKey (m : PM) (k : Nat) (i st : Int) : ConSame m (m.endKey k i st) :=
  (ConSame.sendB m k _).trans (ConSame.of_eq (drop_same _ _ _).2.2)

theorem ConSame.take (m : PM) (k : Nat) (r : Rec) : ConSame m (m.take k r) := by
  unfold PM.take
  split
  · unfold PM.begin_
    cases (r.2.2.toList == [1])
    · exact ConSame.endKey m k _ _
    · cases decide ((m.keysOf k).length ≥ 4)
      · exact ConSame.refl _
      · exact ConSame.endKey m k _ _
  split
  · unfold PM.in_
    cases m.find k r.2.1 with
    | none => exact ConSame.refl _
    | some a =>
      simp only []
      unfold PM.inAt PM.enqueue
      cases ((m.req.getD a noReq).stage == 0)
      · exact ConSame.refl _
      · cases (r.2.2.toList == [])
        · cases decide (500 < ((m.req.getD a noReq).body ++ r.2.2).size)
          · exact ConSame.refl _
          · exact ConSame.endKey m k _ _
        · cases m.room
          · exact ConSame.endKey m k _ _
          · exact ConSame.refl _
  split
  · unfold PM.abort
    cases m.find k r.2.1 with
    | none => exact ConSame.refl _
    | some a =>
      simp only []
      refine ConSame.trans ?_ (ConSame.endKey _ k _ _)
      cases m.slotOf k r.2.1 <;> exact ConSame.refl _
  · exact ConSame.refl _

theorem startTo_con (m : PM) (u : Int) : ∀ k, (startTo m u k).1.con = m.con
  | 0 => rfl
  | k + 1 => by
    have ih := startTo_con m u k
    simp only [startTo]
    cases (decide ((startTo m u k).2 < m.set.ch) && ((startTo m u k).1.slot k).st == 0) <;> exact ih

theorem leaseTo_con (m : PM) : ∀ k, (m.leaseTo k).con = m.con
  | 0 => rfl
  | k + 1 => by
    have ih := leaseTo_con m k
    show ((m.leaseTo k).leaseAt k).con = _
    unfold PM.leaseAt
    cases (m.leaseTo k).fw with
    | none => exact ih
    | some a =>
      simp only []
      cases (((m.leaseTo k).slot k).st == 2) <;> exact ih

theorem ConSame.settle (m : PM) : ConSame m m.settle := by
  apply ConSame.of_eq
  unfold PM.settle PM.leaseWaiting
  rw [leaseTo_con]
  cases m.set.dyn
  · exact startTo_con m _ 6
  · rfl

theorem dropAll_con : ∀ (l : List (Int × Int)) (m : PM), (m.dropAll l).con = m.con
  | [], _ => rfl
  | p :: l, m => by
    show ((m.drop p.1 p.2).dropAll l).con = _
    rw [dropAll_con l, (drop_same m p.1 p.2).2.2]

theorem close_con (m : PM) (k j : Nat) : ((m.close k).con j) = if j = k then { m.con k with op := false, rest := ⟨#[]⟩ } else m.con j := by
  unfold PM.close
  rw [dropAll_con]
  simp only [PM.shut, upd]

theorem settle_line (M : RM) : M.settle.line = M.line := by
  unfold RM.settle
  rw [(RM.leaseN_same 6 M.startAll).2.2.2.1]
  exact (RM.startN_same 6 M).2.2.2.1

theorem one_line {M : RM} (hwf : M.wf) (k i : Nat) (r : Rec) (j : Nat) :
    ((M.one k i r).line j).come = (M.line j).come ∧ ((M.one k i r).line j).took = if j = k then i + 1 else (M.line j).took := by
  have hst := RM.step_take (m := M.tookAt k (i + 1)) ⟨hwf.q, hwf.s, hwf.ch⟩ k r.1 r.2.1 r.2.2 (plcI (M.find k r.2.1)) (plcI_lt (m := M))
  unfold RM.one
  rw [settle_line, hst.come j, hst.took j]
  simp only [RM.tookAt, upd]
  constructor
  · split
    · rename_i e; rw [e]
    · rfl
  · split <;> rfl

/-- What the two have come to when all that came is taken. -/
structure Fin (k : Nat) (all : ByteArray) (m m' : PM) (M R : RM) (P : List Rec × Nat × Bool) (i : Nat) (stop : Bool) : Prop where
  sim : Sim m' (cond (!stop && P.2.2) (R.close k) R)
  come : ∀ j, (R.line j).come = (M.line j).come
  took : ∀ j, j ≠ k → (R.line j).took = (M.line j).took
  rest : ∀ j, j ≠ k → (m'.con j).rest = (m.con j).rest ∧ (m'.con j).op = (m.con j).op
  fed : (m'.con k).op = true → stop = false ∧ P.2.2 = false ∧ (m'.con k).rest = left all P.2.1 ∧ (R.line k).took = if P.1 = [] then (M.line k).took else i + P.1.length
  small : (m'.con k).rest.size ≤ all.size

theorem feed_sim (k : Nat) (hk : k < 4) (all : ByteArray) : ∀ (f t : Nat) (m : PM) (M : RM) (i : Nat), Sim m M → all.size - t < f →
    Fin k all m (PM.takeAll k all f m t) M (RM.feedL k (rdec true f all t).1 M i).1 (rdec true f all t) i (RM.feedL k (rdec true f all t).1 M i).2
  | 0, _, _, _, _, _, h => by omega
  | f + 1, t, m, M, i, hs, hf => by
    rcases rcode_cases true (left all t) with e | e | e
    · rw [rdec_zero e]
      have et : PM.takeAll k all (f + 1) m t = m.setRest k (left all t) := by simp only [PM.takeAll, e, if_true]
      rw [et]
      have hne : ∀ j, j ≠ k → (m.setRest k (left all t)).con j = m.con j := fun j hj => by simp [PM.setRest, upd_other _ _ hj]
      exact ⟨hs.rest k _, fun _ => rfl, fun _ _ => rfl, fun j hj => by rw [hne j hj]; exact ⟨rfl, rfl⟩, fun _ => ⟨rfl, rfl, by simp [PM.setRest], by simp [RM.feedL]⟩, by simp only [PM.setRest, upd_same]; rw [left_size]; omega⟩
    · rw [rdec_one e]
      have et : PM.takeAll k all (f + 1) m t = m.close k := by simp [PM.takeAll, e]
      rw [et]
      refine ⟨hs.close k, fun _ => rfl, fun _ _ => rfl, fun j hj => by rw [close_con, if_neg hj]; exact ⟨rfl, rfl⟩, fun ho => ?_, by rw [close_con, if_pos rfl]; exact Nat.zero_le _⟩
      rw [close_con, if_pos rfl] at ho
      cases ho
    · rw [rdec_two e]
      obtain ⟨z1, z2, -⟩ := rcode_two e
      rw [left_size] at z2
      obtain ⟨hkd, -⟩ := two_kind e
      generalize hr : recT (left all t) = r at *
      generalize hz : sizeT (left all t) = z at *
      have et : PM.takeAll k all (f + 1) m t = cond (m.again k r.2.1 r.1) (m.close k) (PM.takeAll k all f ((m.take k r).settle) (t + z)) := by
        simp [PM.takeAll, e, hr, hz]
      rw [et]
      have efl : RM.feedL k (r :: (rdec true f all (t + z)).1) M i = cond (r.1 == 1 && (M.find k r.2.1).isSome) (M.close k, true) (RM.feedL k (rdec true f all (t + z)).1 (M.one k i r) (i + 1)) := rfl
      simp only []
      rw [efl]
      have hag : m.again k r.2.1 r.1 = (r.1 == 1 && (M.find k r.2.1).isSome) := by
        unfold PM.again
        rw [Bool.and_comm]
        congr 1
        cases hfm : M.find k r.2.1 with
        | none => rw [hs.find_none hfm]
        | some a =>
          obtain ⟨-, -, -, b, -, hb, -⟩ := hs.find_some hfm
          rw [hb]; rfl
      rw [hag]
      cases hc : (r.1 == 1 && (M.find k r.2.1).isSome)
      · simp only [cond_false]
        have h1 : Sim (m.take k r).settle (M.one k i r) := by
          have := ((hs.took k (i + 1)).take hk r hkd (fun e1 => by
            cases hfm : M.find k r.2.1 with
            | none => exact hfm
            | some a => rw [hfm] at hc; simp [e1] at hc)).settle
          exact this
        have ih := feed_sim k hk all f (t + z) (m.take k r).settle (M.one k i r) (i + 1) h1 (by omega)
        have hcs := (ConSame.take m k r).trans (ConSame.settle _)
        have hol := fun j => one_line hs.wf k i r j
        generalize rdec true f all (t + z) = P at *
        generalize RM.feedL k P.1 (M.one k i r) (i + 1) = R at *
        obtain ⟨a1, a2, a3, a4, a5, a6⟩ := ih
        refine ⟨a1, fun j => (a2 j).trans (hol j).1, fun j hj => (a3 j hj).trans (by rw [(hol j).2, if_neg hj]), fun j hj => ⟨(a4 j hj).1.trans (hcs j).2, (a4 j hj).2.trans (hcs j).1⟩, fun ho => ?_, a6⟩
        obtain ⟨b1, b2, b3, b4⟩ := a5 ho
        refine ⟨b1, b2, b3, ?_⟩
        rw [b4, (hol k).2, if_pos rfl]
        simp only [reduceCtorEq, if_false, List.length_cons]
        split
        · rename_i e0; rw [e0]; simp
        · omega
      · simp only [cond_true]
        refine ⟨hs.close k, ?_, ?_, fun j hj => by rw [close_con, if_neg hj]; exact ⟨rfl, rfl⟩, fun ho => ?_, by rw [close_con, if_pos rfl]; exact Nat.zero_le _⟩
        · intro j
          simp only [RM.close, upd]
          split
          · rename_i e0; rw [e0]
          · rfl
        · intro j hj
          simp only [RM.close, upd_other _ _ hj]
        · rw [close_con, if_pos rfl] at ho
          cases ho

end Go.Proofs.YtlafkpaljibonaaGreat

namespace Go.Proofs.YtlafkpaljibonaaGreat
open Go.RowKit

/-- What has come over the connections that are open. -/
def Fed (m : PM) (M : RM) : Prop := ∀ k, k < 4 → (m.con k).op = true → (M.line k).took = (rdL true (M.line k).come).length ∧ (m.con k).rest = left (M.line k).come (rdN true (M.line k).come) ∧ rdB true (M.line k).come = false

def LineSame (M M' : RM) : Prop := ∀ j, (M'.line j).come = (M.line j).come ∧ (M'.line j).took = (M.line j).took

theorem LineSame.refl (M : RM) : LineSame M M := fun _ => ⟨rfl, rfl⟩
theorem LineSame.trans {a b c : RM} (h : LineSame a b) (k : LineSame b c) : LineSame a c := fun j => ⟨(k j).1.trans (h j).1, (k j).2.trans (h j).2⟩
theorem LineSame.of_eq {M M' : RM} (h : M'.line = M.line) : LineSame M M' := fun j => by rw [h]; exact ⟨rfl, rfl⟩
theorem LineSame.send (M : RM) (k : Nat) (r : Rec) : LineSame M (M.send k r) := by
  intro j
  simp only [RM.send, upd]
  split
  · rename_i e; subst e; exact ⟨rfl, rfl⟩
  · exact ⟨rfl, rfl⟩
theorem LineSame.endOf (M : RM) (k : Nat) (st : Int) : LineSame M (M.endOf k st) := by
  unfold RM.endOf
  cases M.live k
  · exact LineSame.refl _
  · exact LineSame.send M _ _
theorem LineSame.outN (c : Nat) (i : Int) : ∀ (f : Nat) (M : RM) (t : ByteArray), LineSame M (RM.outN c i f M t)
  | 0, M, _ => LineSame.refl M
  | f + 1, M, t => by
    unfold RM.outN
    split
    · exact LineSame.refl _
    · exact (LineSame.send M _ _).trans (LineSame.outN c i f _ _)
theorem ConSame.outN (c : Nat) (i : Int) : ∀ (f : Nat) (m : PM) (t : ByteArray), ConSame m (PM.outN c i f m t)
  | 0, m, _ => ConSame.refl m
  | f + 1, m, t => by
    unfold PM.outN
    split
    · exact ConSame.refl _
    · exact (ConSame.sendB m _ _).trans (ConSame.outN c i f _ _)
theorem ConSame.endKeyOf (m : PM) (k : Nat) (st : Int) : ConSame m (m.endKeyOf k st) := by
  unfold PM.endKeyOf
  cases ((m.slot k).conn != -1)
  · exact ConSame.refl _
  · exact ConSame.endKey m _ _ _

theorem Fed.of {m m' : PM} {M M' : RM} (h : Fed m M) (h1 : ConSame m m') (h2 : LineSame M M') : Fed m' M' := by
  intro k hk ho
  rw [(h1 k).1] at ho
  rw [(h2 k).1, (h2 k).2, (h1 k).2]
  exact h k hk ho

theorem rd_nil : rdL true ⟨#[]⟩ = [] ∧ rdN true ⟨#[]⟩ = 0 ∧ rdB true ⟨#[]⟩ = false := by
  have e : rcode true (left ⟨#[]⟩ 0) = 0 := by
    unfold rcode
    rw [if_pos]
    rw [left_size]
    decide
  obtain ⟨a, b, c⟩ := rd_parts true ⟨#[]⟩
  rw [rdec_zero e] at a b c
  exact ⟨a, b, c⟩

section
variable {m : PM} {M : RM}

theorem Fed.connect (h : Fed m M) (k : Nat) : Fed (m.connect k) (M.connect k) := by
  intro j hj ho
  obtain ⟨a, b, c⟩ := rd_nil
  by_cases e : j = k
  · subst e
    simp only [PM.connect, RM.connect, upd_same]
    rw [a, b, c]
    refine ⟨rfl, ?_, rfl⟩
    unfold left
    rfl
  · simp only [PM.connect, RM.connect, upd_other _ _ e] at ho ⊢
    exact h j hj ho

theorem Fed.close (h : Fed m M) (k : Nat) : Fed (m.close k) (M.close k) := by
  intro j hj ho
  rw [close_con] at ho ⊢
  by_cases e : j = k
  · rw [if_pos e] at ho; cases ho
  · rw [if_neg e] at ho ⊢
    have := h j hj ho
    simp only [RM.close, upd_other _ _ e]
    exact this

theorem Fed.feed (hs : Sim m M) (h : Fed m M) {k : Nat} (hk : k < 4) (ho : (m.con k).op = true) (s : ByteArray) : Sim (m.feed k s) (M.feed k s) ∧ Fed (m.feed k s) (M.feed k s) ∧ (∀ j, j ≠ k → ((m.feed k s).con j).rest = (m.con j).rest) ∧ ((m.feed k s).con k).rest.size ≤ (m.con k).rest.size + s.size ∧ ∀ j, ((M.feed k s).line j).come = if j = k then (M.line k).come ++ s else (M.line j).come := by
  obtain ⟨h1, h2, h3⟩ := h k hk ho
  obtain ⟨r1, r2, r3, r4⟩ := read_on (M.line k).come s h3
  have hsim := hs.came k ((M.line k).come ++ s)
  have hfs := feed_sim k hk ((m.con k).rest ++ s) (((m.con k).rest ++ s).size + 1) 0 m (M.cameAt k ((M.line k).come ++ s)) (M.line k).took hsim (by omega)
  obtain ⟨pL, pN, pB⟩ := rd_parts true ((m.con k).rest ++ s)
  have hdrop : (rdL true ((M.line k).come ++ s)).drop (M.line k).took = rdL true ((m.con k).rest ++ s) := by
    rw [r1, h1, h2, List.drop_left]
  have hB : rdB true ((M.line k).come ++ s) = rdB true ((m.con k).rest ++ s) := by rw [r3, h2]
  unfold PM.feed RM.feed
  rw [hdrop, hB, pL, pB]
  have hcl : ∀ j, ((M.cameAt k ((M.line k).come ++ s)).line j).come = if j = k then (M.line k).come ++ s else (M.line j).come := by
    intro j
    simp only [RM.cameAt, upd]
    split <;> rfl
  have htl : ∀ j, ((M.cameAt k ((M.line k).come ++ s)).line j).took = (M.line j).took := by
    intro j
    simp only [RM.cameAt, upd]
    split
    · rename_i e; rw [e]
    · rfl
  generalize rdec true (((m.con k).rest ++ s).size + 1) ((m.con k).rest ++ s) 0 = P at *
  generalize RM.feedL k P.1 (M.cameAt k ((M.line k).come ++ s)) (M.line k).took = R at *
  generalize PM.takeAll k ((m.con k).rest ++ s) (((m.con k).rest ++ s).size + 1) m 0 = m' at *
  obtain ⟨a1, a2, a3, a4, a5, a6⟩ := hfs
  refine ⟨a1, ?_, fun j hj => (a4 j hj).1, by rw [ByteArray.size_append] at a6; exact a6, fun j => by
    have e0 : ((cond (!R.2 && P.2.2) (R.1.close k) R.1).line j).come = (R.1.line j).come := by
      cases (!R.2 && P.2.2)
      · rfl
      · simp only [cond_true, RM.close, upd]
        split
        · rename_i e; rw [e]
        · rfl
    rw [e0, a2 j, hcl j]⟩
  intro j hj ho'
  by_cases e : j = k
  · subst e
    obtain ⟨b1, b2, b3, b4⟩ := a5 ho'
    rw [b1, b2]
    simp only [Bool.not_false, Bool.and_false, cond_false]
    rw [a2 j, hcl j, if_pos rfl, b4, htl j]
    refine ⟨?_, ?_, ?_⟩
    · rw [r1, List.length_append, ← h1, ← h2, pL]
      split
      · rename_i e0; rw [e0]; simp
      · rfl
    · rw [b3, r2, ← pN, ← h2]
      rw [← left_left, left_app _ _ r4, h2]
    · rw [hB, pB]; exact b2
  · have hop : (m.con j).op = true := by rw [← (a4 j e).2]; exact ho'
    obtain ⟨c1, c2, c3⟩ := h j hj hop
    have hline : (cond (!R.2 && P.2.2) (R.1.close k) R.1).line j = R.1.line j := by
      cases (!R.2 && P.2.2)
      · rfl
      · simp only [cond_true, RM.close, upd_other _ _ e]
    rw [hline, a2 j, a3 j e, hcl j, if_neg e, htl j, (a4 j e).1]
    exact ⟨c1, c2, c3⟩

theorem Sim.outN (c : Nat) (i : Int) : ∀ (f : Nat) {m : PM} {M : RM} (t : ByteArray), Sim m M → Sim (PM.outN c i f m t) (RM.outN c i f M t)
  | 0, _, _, _, h => h
  | f + 1, m, M, t, h => by
    unfold PM.outN RM.outN
    split
    · exact h
    · exact Sim.outN c i f _ (h.send c 6 i _)

theorem Sim.has_key (h : Sim m M) {k : Nat} (hk : k < 6) : ((m.slot k).conn != -1) = M.live k ∧ (M.live k = true → (m.slot k).conn = (M.key (M.slot k).key).conn ∧ (m.slot k).id = (M.key (M.slot k).key).id ∧ (M.key (M.slot k).key).is ≠ 3 ∧ ∃ c : Nat, c < 4 ∧ (M.key (M.slot k).key).conn = c) := by
  have hc := h.conn k hk
  have hi := h.id k hk
  unfold RM.connOf at hc
  unfold RM.idOf at hi
  cases hl : M.live k
  · rw [hl] at hc
    rw [hc]
    exact ⟨rfl, fun e => by cases e⟩
  · rw [hl] at hc hi
    have h2 := (RM.live_iff.1 hl).2
    have hon : (M.key (M.slot k).key).is ≠ 3 := by omega
    obtain ⟨c, hc4, hcn⟩ := h.range _ (RM.on_lt hon)
    rw [← M.key_eq (RM.on_lt hon)] at hcn
    refine ⟨?_, fun _ => ⟨hc, hi, hon, c, hc4, hcn⟩⟩
    rw [hc]
    show ((M.key (M.slot k).key).conn != -1) = true
    rw [hcn]
    simp

theorem Sim.fair (h : Sim m M) : (∀ k, k < 6 → m.fair k) ∧ ∀ k, k < 6 → M.fair k := by
  constructor
  · intro k hk
    obtain ⟨h1, h2⟩ := h.has_key hk
    unfold PM.fair
    cases hl : M.live k
    · rw [hl] at h1
      left
      simpa using h1
    · obtain ⟨e, -, -, c, hc, e2⟩ := h2 hl
      exact .inr ⟨c, hc, e.trans e2⟩
  · intro k hk hl
    obtain ⟨-, -, -, c, hc, e2⟩ := (h.has_key hk).2 hl
    exact ⟨c, hc, e2⟩

theorem Sim.endOf (h : Sim m M) {k : Nat} (hk : k < 6) (st : Int) : Sim (m.endKeyOf k st) (M.endOf k st) := by
  obtain ⟨h1, h2⟩ := h.has_key hk
  unfold PM.endKeyOf RM.endOf
  rw [h1]
  cases hl : M.live k
  · exact h
  · obtain ⟨e1, e2, e3, -⟩ := h2 hl
    simp only [cond_true]
    rw [e1, e2]
    exact h.endKey e3 st

theorem Sim.wakes (h : Sim m M) {k : Nat} (hk : k < 6) (hst : (M.slot k).st = 1) : Sim (cond (m.slot k).old (m.kill k) (m.becomesAt k 2)) (M.wakes k) := by
  have hs0 := h.idle0 k hk (by omega)
  have e1 : (M.slotSt k 2).slotSince k 0 = M.slotSt k 2 := by
    simp only [RM.slotSt, RM.slotSince, upd_same, RM.mk.injEq, true_and, and_true]
    funext t
    simp only [upd]
    split
    · rw [← hs0]
    · rfl
  have e2 : (M.slotSt k 2).kill k = M.kill k := by
    simp only [RM.slotSt, RM.kill, upd_same, RM.mk.injEq, true_and, and_true]
    funext t
    simp only [upd]
    split <;> rfl
  unfold RM.wakes
  rw [h.old k hk, e2]
  cases (M.slot k).old
  · simp only [cond_false]
    rw [← e1]
    exact h.becomes hk 2 (by omega)
  · exact h.kill hk

theorem Sim.spawned (h : Sim m M) {k : Nat} (hk : k < 6) (hst : (M.slot k).st = 1) : Sim (m.spawned k) (M.spawned k) := (h.wakes hk hst).settle

theorem Sim.outputs (h : Sim m M) {k : Nat} (hk : k < 6) (s : ByteArray) : Sim (m.outputs k s) (M.outputs k s) := by
  obtain ⟨h1, h2⟩ := h.has_key hk
  unfold PM.outputs RM.outputs RM.putsOut PM.sendOut
  apply Sim.settle
  rw [h1]
  cases hl : M.live k
  · exact h
  · obtain ⟨e1, e2, -⟩ := h2 hl
    simp only [cond_true]
    rw [e1, e2]
    exact Sim.outN _ _ _ _ h

theorem Sim.finished (h : Sim m M) {k : Nat} (hk : k < 6) : Sim (m.finished k) (M.finished k) := by
  have h1 := h.endOf hk 0
  unfold PM.finished RM.finished
  apply Sim.settle
  generalize m.endKeyOf k 0 = m' at *
  generalize M.endOf k 0 = M' at *
  unfold PM.retires RM.retires PM.mustGo RM.goes
  rw [h1.old k hk, h1.served k hk, h1.set]
  cases ((M'.slot k).old || (decide (0 < M'.set.mr) && decide (M'.set.mr ≤ (M'.slot k).served)))
  · exact h1.becomes hk 2 (by omega)
  · exact h1.kill hk

theorem Sim.died (h : Sim m M) {k : Nat} (hk : k < 6) : Sim (m.died k) (M.died k) := ((h.endOf hk 1).anew hk 0 (by omega)).settle

end
end Go.Proofs.YtlafkpaljibonaaGreat

namespace Go.Proofs.YtlafkpaljibonaaGreat
open Go.RowKit

theorem own_recs {w : World} {base g c : Nat} {l : List Rec} (h : w.ownsRow base 102 3 (.slice (some ⟨g, 0, none⟩) l.length c) l.length (rowOf l)) :
    ∀ k (hk : k < l.length), w.cell? ⟨g, k * 3, none⟩ = some (.int .i64 l[k].1) ∧ w.cell? ⟨g, k * 3 + 1, none⟩ = some (.int .i64 l[k].2.1) ∧ w.cell? ⟨g, k * 3 + 2, none⟩ = some (.string l[k].2.2) := by
  intro k hk
  have := rowOf_get l k hk
  rw [Nat.mul_comm 3 k] at this
  rw [h.cellAt _ (by omega), h.cellAt _ (by omega), h.cellAt _ (by omega)]
  exact this

section
variable {o : Nat → Tag} {q : Nat} {w : World} {b : Nat} {m : RM} {lv : Nat → Value} {kv qv : Value}

set_option maxRecDepth 100000 in
set_option maxHeartbeats 40000000 in
theorem rFeed_open (h : RMem o q w b m lv kv qv) (hq : q ≠ 0) (k : Nat) (hk : k < 4) (s : ByteArray) (hchk : m.chk k = 0) {K Q S : Nat} (hg : m.good K Q S) (hK : K ≤ 10000000000) (hQ : Q ≤ 10000000000) (hS : S ≤ 10000000000)
    (hsz : (m.line k).come.size + s.size ≤ 1000000000) (htook : (m.line k).took ≤ (rdL true ((m.line k).come ++ s)).length) (hlen : (rdL true ((m.line k).come ++ s)).length ≤ 1000000000)
    (hrec : ∀ r ∈ rdL true ((m.line k).come ++ s), (r.1 = 1 ∨ r.1 = 2 ∨ r.1 = 5) ∧ r.2.2.size ≤ 100000000) :
    Calls Tryz.prog 48 #[.pointer (some ⟨b, 0, none⟩), .int .i64 k, .string s] w fun r w' => r = .returned (.int .i64 0) ∧ ∃ o' lv' kv' qv', RMem o' q w' b (m.feed k s) lv' kv' qv' ∧ Fr q o w o' w' := by
  have k1 : Hid (∀ w', RMem o q w' b m lv kv qv → Calls Tryz.prog 80 #[.pointer (some ⟨b, 0, none⟩), .int .i64 k] w' fun r w'' => r = .returned (.int .i64 0) ∧ w'' = w') := fun w' h' => by
    have := rClosed_any h' k
    rw [hchk] at this
    exact this
  have hkI : (k : Int) < 4 := by omega
  obtain ⟨-, c1, c2, -⟩ := h.linec hk
  obtain ⟨hm1, fr1⟩ := h.setCome k hk ((m.line k).come ++ s)
  have fz := h.frozen
  have hcat : ¬ (9223372036854775807 < (m.line k).come.size + s.size) := by omega
  have hsz' : ((m.line k).come ++ s).size ≤ 1000000000 := by rw [ByteArray.size_append]; exact hsz
  unfold RM.feed
  have hg1 := hg.came k ((m.line k).come ++ s)
  have hcome : ((m.cameAt k ((m.line k).come ++ s)).line k).took = (m.line k).took := by simp [RM.cameAt]
  have hcome2 : ((m.cameAt k ((m.line k).come ++ s)).line k).come = (m.line k).come ++ s := by simp [RM.cameAt]
  generalize (m.line k).come = c0 at *
  generalize hall : c0 ++ s = all at *
  generalize (m.line k).took = t0 at *
  generalize hm1e : m.cameAt k all = m1 at *
  have hm1e' : Hid _ := hm1e
  clear hm1e
  have kr : Hid (∀ w', Calls Tryz.prog 83 #[.string all, .bool true] w' fun r w'' => ∃ v, r = .returned (.tuple #[v, .int .i64 (rdN true all), .bool (rdB true all)]) ∧ w''.ownsRow w'.heap.size 102 3 v (rdL true all).length (rowOf (rdL true all)) ∧ Below w'.heap.size w' w'') := fun w' => refRead_any all true w' (by omega)
  generalize rdL true all = l at *
  generalize rdB true all = bad at *
  generalize rdN true all = rn at *
  go_enter Tryz.func48, Tryz.ntmps48
  go_wp2_with fail
  refine (k1.out _ h).mono ?_
  rintro e w1 ⟨rfl, rfl⟩
  go_wp2_with fail
  refine wp_region_noPanic ?_
  refine wp_region_held_drew (S := fun w' => True) (by kernel_rfl) trivial (fun hHeld => ?_)
  refine take_at (i := 0) (v := ?_) rfl (by kernel_rfl) (by kernel_rfl) (by kernel_rfl) (fun _ _ _ h => h) (by rfl) ?_ (by assumption) ?_
  rotate_left
  · (intro wx hSw; go_simp; with_reducible rfl)
  simp only [Act.put, List.setIfInBounds_toArray, List.set_cons_zero, List.set_cons_succ]
  refine take_at (i := 1) (v := ?_) rfl (by kernel_rfl) (by kernel_rfl) (by kernel_rfl) (fun _ _ _ h => h) (by rfl) ?_ (by assumption) ?_
  rotate_left
  · (intro wx hSw; go_simp; with_reducible rfl)
  simp only [Act.put, List.setIfInBounds_toArray, List.set_cons_zero, List.set_cons_succ]
  refine take_at (i := 2) (v := ?_) rfl (by kernel_rfl) (by kernel_rfl) (by kernel_rfl) (fun _ _ _ h => h) (by rfl) ?_ (by assumption) ?_
  rotate_left
  · (intro wx hSw; go_simp; with_reducible rfl)
  simp only [Act.put, List.setIfInBounds_toArray, List.set_cons_zero, List.set_cons_succ]
  refine take_at (i := 3) (v := ?_) rfl (by kernel_rfl) (by kernel_rfl) (by kernel_rfl) (fun _ _ _ h => h) (by rfl) ?_ (by assumption) ?_
  rotate_left
  · (intro wx hSw; go_simp; with_reducible rfl)
  simp only [Act.put, List.setIfInBounds_toArray, List.set_cons_zero, List.set_cons_succ]
  refine take_at (i := 4) (v := ?_) rfl (by kernel_rfl) (by kernel_rfl) (by kernel_rfl) (fun _ _ _ h => h) (by rfl) ?_ (by assumption) ?_
  rotate_left
  · (intro wx hSw; go_simp; with_reducible rfl)
  simp only [Act.put, List.setIfInBounds_toArray, List.set_cons_zero, List.set_cons_succ]
  refine take_at (i := 5) (v := ?_) rfl (by kernel_rfl) (by kernel_rfl) (by kernel_rfl) (fun _ _ _ h => h) (by rfl) ?_ (by assumption) ?_
  rotate_left
  · (intro wx hSw; go_simp; with_reducible rfl)
  simp only [Act.put, List.setIfInBounds_toArray, List.set_cons_zero, List.set_cons_succ]
  refine take_at (i := 6) (v := ?_) rfl (by kernel_rfl) (by kernel_rfl) (by kernel_rfl) (fun _ _ _ h => h) (by rfl) ?_ (by assumption) ?_
  rotate_left
  · (intro wx hSw; go_simp; with_reducible rfl)
  simp only [Act.put, List.setIfInBounds_toArray, List.set_cons_zero, List.set_cons_succ]
  refine take_at (i := 7) (v := ?_) rfl (by kernel_rfl) (by kernel_rfl) (by kernel_rfl) (fun _ _ _ h => h) (by rfl) ?_ (by assumption) ?_
  rotate_left
  · (intro wx hSw; go_simp; with_reducible rfl)
  simp only [Act.put, List.setIfInBounds_toArray, List.set_cons_zero, List.set_cons_succ]
  refine take_at (i := 9) (v := ?_) rfl (by kernel_rfl) (by kernel_rfl) (by kernel_rfl) (fun _ _ _ h => h) (by rfl) ?_ (by assumption) ?_
  rotate_left
  · (intro wx hSw; go_simp; with_reducible rfl)
  simp only [Act.put, List.setIfInBounds_toArray, List.set_cons_zero, List.set_cons_succ]
  refine take_at (i := 11) (v := ?_) rfl (by kernel_rfl) (by kernel_rfl) (by kernel_rfl) (fun _ _ _ h => h) (by rfl) ?_ (by assumption) ?_
  rotate_left
  · (intro wx hSw; go_simp; with_reducible rfl)
  simp only [Act.put, List.setIfInBounds_toArray, List.set_cons_zero, List.set_cons_succ]
  refine take_at (i := 12) (v := ?_) rfl (by kernel_rfl) (by kernel_rfl) (by kernel_rfl) (fun _ _ _ h => h) (by rfl) ?_ (by assumption) ?_
  rotate_left
  · (intro wx hSw; go_simp; with_reducible rfl)
  simp only [Act.put, List.setIfInBounds_toArray, List.set_cons_zero, List.set_cons_succ]
  refine only_at (i := 8) rfl (by kernel_rfl) (by rfl) (fun K hK => ?_)
  go_simp
  refine hK.out _ _ trivial ?_
  clear hK K
  try simp only [Act.put, List.setIfInBounds_toArray, List.set_cons_zero, List.set_cons_succ]
  refine take_at (i := 10) (v := ?_) rfl (by kernel_rfl) (by kernel_rfl) (by kernel_rfl) (fun _ _ _ h => h) (by rfl) ?_ (by assumption) ?_
  rotate_left
  · (intro wx hSw; go_simp; with_reducible rfl)
  simp only [Act.put, List.setIfInBounds_toArray, List.set_cons_zero, List.set_cons_succ]
  refine take_at (i := 13) (v := ?_) rfl (by kernel_rfl) (by kernel_rfl) (by kernel_rfl) (fun _ _ _ h => h) (by rfl) ?_ (by assumption) ?_
  rotate_left
  · (intro wx hSw; go_simp; with_reducible rfl)
  simp only [Act.put, List.setIfInBounds_toArray, List.set_cons_zero, List.set_cons_succ]
  refine take_at (i := 14) (v := ?_) rfl (by kernel_rfl) (by kernel_rfl) (by kernel_rfl) (fun _ _ _ h => h) (by rfl) ?_ (by assumption) ?_
  rotate_left
  · (intro wx hSw; go_simp; with_reducible rfl)
  simp only [Act.put, List.setIfInBounds_toArray, List.set_cons_zero, List.set_cons_succ]
  refine only_at (i := 15) rfl (by kernel_rfl) (by rfl) (fun K hK => ?_)
  go_simp
  have hmd := h.drew
  have e1 : m.cameAt k all = m1 := hm1e'.out
  obtain ⟨hm2, fr2⟩ := hmd.setCome k hk all
  rw [e1] at hm2
  have frA : Fr q o w1 o (w1.drew.setCell ⟨b, 8 + k * 4 + 1, none⟩ (.string all)) := (Fr.of_below (q := q) h.clean (Below.refl _ _).drew).trans fr2
  refine hK.out _ (w1.drew.setCell ⟨b, 8 + k * 4 + 1, none⟩ (.string all)) trivial ?_
  clear hK K hHeld
  refine wpAnyH_done (by kernel_rfl) ?_ _
  refine NoPanic.normal ?_
  clear hm1 fr1 c1 c2 fz e1 hm1e' fr2 hmd
  generalize w1.drew.setCell ⟨b, 8 + k * 4 + 1, none⟩ (.string all) = w2 at *
  obtain ⟨-, c1, c2, -⟩ := hm2.linec hk
  rw [hcome2] at c1
  rw [hcome] at c2
  go_wp2_with fail
  refine (kr.out _).mono ?_
  rintro e w3 ⟨v, rfl, own, hb3⟩
  have hm3 := hm2.below hb3
  have frB := frA.below hb3
  have hrow : Row o w3 (0, 0) 102 3 v l.length (rowOf l) := ⟨own_mono own (Nat.zero_le _), fun g hgv => hm2.clean g (own.lt g hgv).1⟩
  clear c1 c2 own hb3 kr
  obtain ⟨av, cv, rfl, hln, -⟩ := hrow.form
  obtain ⟨-, -, c2, -⟩ := hm3.linec hk
  rw [hcome] at c2
  go_wp2
  clear c2
  go_loopw [11] (fun i w' => ∃ (M : RM) (n : Nat) (o' : Nat → Tag) (lv' : Nat → Value) (kv' qv' : Value), i = .int .i64 n ∧ t0 ≤ n ∧ n ≤ l.length ∧ RMem o' q w' b M lv' kv' qv' ∧ Fr q o w1 o' w' ∧ Row o' w' (0, 0) 102 3 (.slice av l.length cv) l.length (rowOf l) ∧ RM.feedL k (l.drop t0) m1 t0 = RM.feedL k (l.drop n) M n ∧ M.good (K + n) (Q + n) (S + n)) (fun i _ => l.length - (intOf i).toNat)
  case atStart => exact ⟨m1, t0, o, lv, kv, qv, rfl, Nat.le_refl _, htook, hm3, frB, hrow, rfl, hg1.mono (by omega) (by omega) (by omega)⟩
  case round =>
    obtain ⟨M, n, o1, lv1, kv1, qv1, rfl, hn0, hn, hm, hfr, hrw, heq, hgd⟩ := hrel
    clear h hm3 frB hrow hg1 hm2 frA k1 hcome hcome2 hg hchk htook
    have HEQ : Hid _ := heq
    clear heq
    by_cases hlt : n < l.length
    · obtain ⟨av', cv', e', -, hav⟩ := hrw.form
      simp only [Value.slice.injEq, true_and] at e'
      obtain ⟨rfl, rfl⟩ := e'
      obtain ⟨g, rfl, hgt, hgl⟩ := hav (by omega)
      obtain ⟨p0, p1, p2⟩ := own_recs hrw.1 n hlt
      obtain ⟨hr1, hr2⟩ := hrec l[n] (List.getElem_mem hlt)
      have HST : Hid (RM.feedL k (l.drop n) M n = cond (l[n].1 == 1 && (M.find k l[n].2.1).isSome) (M.close k, true) (RM.feedL k (l.drop (n + 1)) (M.one k n l[n]) (n + 1))) := by
        show _ = _
        rw [List.drop_eq_getElem_cons hlt]
        rfl
      have HP : Hid (∀ (o' : Nat → Tag) w', Row o' w' (0, 0) 102 3 (.slice (some ⟨g, 0, none⟩) l.length cv) l.length (rowOf l) → w'.cell? ⟨g, n * 3, none⟩ = some (.int .i64 l[n].1) ∧ w'.cell? ⟨g, n * 3 + 1, none⟩ = some (.int .i64 l[n].2.1) ∧ w'.cell? ⟨g, n * 3 + 2, none⟩ = some (.string l[n].2.2)) := fun o' w' h' => own_recs h'.1 n hlt
      clear hrec
      generalize l[n] = r at *
      have hfd := fun (a : Nat) (e : M.find k r.2.1 = some a) => RM.find_some e
      have kfi : Hid (∀ w', RMem o1 q w' b M lv1 kv1 qv1 → Calls Tryz.prog 84 #[.pointer (some ⟨b, 0, none⟩), .int .i64 k, .int .i64 r.2.1] w' fun e w'' => e = .returned (.int .i64 (plcI (M.find k r.2.1))) ∧ w'' = w') := fun w' h' => rFind_any h' k r.2.1
      have htk := hgd.took k (n + 1)
      have hset := fun w' (h' : RMem o1 q w' b M lv1 kv1 qv1) => h'.setTook k hk (n + 1)
      have ha : plcI (M.find k r.2.1) = -1 ∨ ∃ a, ∃ ha : a < M.keys.length, plcI (M.find k r.2.1) = (a : Nat) ∧ M.keys[a].conn = k ∧ M.keys[a].body.size + r.2.2.size ≤ 1000000000 := by
        cases hf : M.find k r.2.1 with
        | none => exact .inl rfl
        | some a =>
          obtain ⟨h1, h2, -, h4⟩ := hfd a hf
          refine .inr ⟨a, h1, rfl, h2, ?_⟩
          have := hgd.fit a
          rw [M.key_eq h1] at this
          rcases this with e | e
          · exact absurd e h4
          · omega
      clear hfd
      have hsome : (M.find k r.2.1).isSome = decide (0 ≤ plcI (M.find k r.2.1)) := by cases M.find k r.2.1 <;> simp [plcI]
      have hneg : plcI (M.find k r.2.1) < 0 → plcI (M.find k r.2.1) = -1 := by cases M.find k r.2.1 <;> simp [plcI]
      rw [hsome] at HST
      clear hsome
      generalize hpl : plcI (M.find k r.2.1) = pl at *
      have HPL : Hid _ := hpl
      clear hpl
      have hbg : b ≠ g := by
        rintro rfl
        rw [hm.tag] at hgt
        exact hq (congrArg Prod.fst hgt)
      have hbg' : g ≠ b := fun e => hbg e.symm
      have fz := hm.frozen
      obtain ⟨-, -, ct, -⟩ := hm.linec hk
      have hlI : (n : Int) < l.length := by omega
      by_cases hA : r.1 = 1 ∧ 0 ≤ pl
      · obtain ⟨hA1, hA2⟩ := hA
        have hA1' : (r.1 == 1) = true := by simp [hA1]
        have HV : Hid (RM.feedL k (l.drop t0) m1 t0 = (M.close k, true)) := by
          show _ = _
          rw [HEQ.out, HST.out, hA1', decide_eq_true hA2]
          rfl
        clear HST HEQ
        go_wp2_with fail
        refine (kfi.out _ hm).mono ?_
        rintro e w5 ⟨rfl, rfl⟩
        go_wp2_with fail
        refine (rClose_any hm k hk).mono ?_
        rintro e w6 ⟨rfl, hm6, fr6⟩
        go_wp2
        go_ret
        rw [HV.out]
        first | exact ⟨rfl, o1, lv1, kv1, qv1, hm6, hfr.trans fr6⟩ | exact ⟨rfl, o1, ⟨lv1, kv1, qv1, hm6⟩, hfr.trans fr6⟩
      · have HV : Hid (RM.feedL k (l.drop t0) m1 t0 = RM.feedL k (l.drop (n + 1)) (M.one k n r) (n + 1)) := by
          show _ = _
          rw [HEQ.out, HST.out]
          have : (r.1 == 1 && decide (0 ≤ pl)) = false := by
            cases h1 : (r.1 == 1)
            · rfl
            · simp only [beq_iff_eq] at h1
              have : ¬ 0 ≤ pl := fun e => hA ⟨h1, e⟩
              simp [this]
          rw [this]
          rfl
        clear HST HEQ
        have hbr : (r.1 == 1) = false ∨ (r.1 = 1 ∧ pl < 0) := by
          by_cases h1 : r.1 = 1
          · exact .inr ⟨h1, Int.lt_of_not_ge fun e => hA ⟨h1, e⟩⟩
          · exact .inl (by simpa using h1)
        clear hA
        have hmT := fun w' (h' : RMem o1 q w' b M lv1 kv1 qv1) => (h'.setTook k hk (n + 1))
        have hsent := htk.sent k
        have hks := htk.keys
        have hqs := htk.queue
        have HT : Hid (∀ w', RMem o1 q w' b (M.tookAt k (n + 1)) lv1 kv1 qv1 → Calls Tryz.prog 85 #[.pointer (some ⟨b, 0, none⟩), .int .i64 k, .agg #[.int .i64 r.1, .int .i64 r.2.1, .string r.2.2], .int .i64 pl] w' fun e w'' => e = .returned (.tuple #[]) ∧ ∃ o' lv' kv' qv', RMem o' q w'' b ((M.tookAt k (n + 1)).take k r.1 r.2.1 r.2.2 pl) lv' kv' qv' ∧ Fr q o1 w' o' w'') := fun w' h' => rTake_any h' htk.wf hq k hk r.1 r.2.1 r.2.2 hr1 pl ha (by omega) (by omega) (by omega)
        have hone : Hid (((M.tookAt k (n + 1)).take k r.1 r.2.1 r.2.2 pl).good (K + n + 1) (Q + n + 1) (S + n + 1)) := htk.take k r.1 r.2.1 r.2.2 pl (ha.elim (fun e => .inl (by rw [e]; omega)) (fun ⟨a, h1, e, _⟩ => .inr (by rw [e]; simpa [RM.tookAt] using h1)))
        have hfin : Hid (((M.tookAt k (n + 1)).take k r.1 r.2.1 r.2.2 pl).settle = M.one k n r) := by
          show _ = _
          rw [← HPL.out]
          rfl
        generalize (M.tookAt k (n + 1)).take k r.1 r.2.1 r.2.2 pl = M2 at *
        have hgo := hgd.one k n r
        clear ha hsent hks hqs htk hset hneg hr1 hr2 hgd
        rcases hbr with hB | ⟨hB1, hB2⟩
        · go_wp2_with fail
          refine (kfi.out _ hm).mono ?_
          rintro e w5 ⟨rfl, rfl⟩
          go_wp2_with fail
          obtain ⟨hm5, fr5⟩ := hmT _ hm
          refine (HT.out _ hm5).mono ?_
          rintro e w6 ⟨rfl, o6, lv6, kv6, qv6, hm6, fr6⟩
          have hrw6 := (hrw.fr fr5 (by exact fun e => hq e.symm)).fr fr6 (by exact fun e => hq e.symm)
          clear p0 p1 p2 ct fz
          go_wp2_with fail
          refine (rSettle_any hm6 hone.out.wf (by have := hone.out.queue; omega)).mono ?_
          rintro e w7 ⟨rfl, hm7, fr7⟩
          rw [hfin.out] at hm7
          have hrw7 := hrw6.fr fr7 (by exact fun e => hq e.symm)
          go_wp2
          exact ⟨⟨M.one k n r, n + 1, o6, lv6, kv6, qv6, by go_num, by omega, by omega, hm7, ((hfr.trans fr5).trans fr6).trans fr7, hrw7, HV.out, hgo⟩, by simp [intOf]; omega⟩
        · have HT2 := HT.out
          rw [hB1] at HT2
          have HT3 : Hid _ := HT2
          clear HT HT2
          go_wp2_with fail
          refine (kfi.out _ hm).mono ?_
          rintro e w5 ⟨rfl, rfl⟩
          go_wp2_with fail
          obtain ⟨hm5, fr5⟩ := hmT _ hm
          refine (HT3.out _ hm5).mono ?_
          rintro e w6 ⟨rfl, o6, lv6, kv6, qv6, hm6, fr6⟩
          have hrw6 := (hrw.fr fr5 (by exact fun e => hq e.symm)).fr fr6 (by exact fun e => hq e.symm)
          clear p0 p1 p2 ct fz
          go_wp2_with fail
          refine (rSettle_any hm6 hone.out.wf (by have := hone.out.queue; omega)).mono ?_
          rintro e w7 ⟨rfl, hm7, fr7⟩
          rw [hfin.out] at hm7
          have hrw7 := hrw6.fr fr7 (by exact fun e => hq e.symm)
          go_wp2
          exact ⟨⟨M.one k n r, n + 1, o6, lv6, kv6, qv6, by go_num, by omega, by omega, hm7, ((hfr.trans fr5).trans fr6).trans fr7, hrw7, HV.out, hgo⟩, by simp [intOf]; omega⟩
    · have hne : n = l.length := by omega
      have HV : Hid (RM.feedL k (l.drop t0) m1 t0 = (M, false)) := by
        show _ = _
        rw [HEQ.out, hne, List.drop_length]
        rfl
      clear HEQ
      have hnI : ¬ ((n : Int) < l.length) := by omega
      cases bad
      · go_wp2
        go_ret
        rw [HV.out]
        first | exact ⟨rfl, o1, lv1, kv1, qv1, hm, hfr⟩ | exact ⟨rfl, o1, ⟨lv1, kv1, qv1, hm⟩, hfr⟩
      · go_wp2_with fail
        refine (rClose_any hm k hk).mono ?_
        rintro e w6 ⟨rfl, hm6, fr6⟩
        go_wp2
        go_ret
        rw [HV.out]
        first | exact ⟨rfl, o1, lv1, kv1, qv1, hm6, hfr.trans fr6⟩ | exact ⟨rfl, o1, ⟨lv1, kv1, qv1, hm6⟩, hfr.trans fr6⟩
end
end Go.Proofs.YtlafkpaljibonaaGreat

namespace Go.Proofs.YtlafkpaljibonaaGreat
open Go.RowKit

/-- The marks with which an owner writes over a list that came out. -/
def ms (t : Int) (k : Nat) : List Value := keyCells (List.replicate k (t, -1))
def mat (t : Int) (j : Nat) : Value := if j % 2 = 0 then .int .i64 t else .int .i64 (-1)

theorem ms_length (t : Int) (k : Nat) : (ms t k).length = k * 2 := by simp [ms, keyCells_length]
theorem ms_succ (t : Int) (k : Nat) : ms t (k + 1) = .int .i64 t :: .int .i64 (-1) :: ms t k := by
  simp [ms, List.replicate_succ, keyCells]
theorem ms_get (t : Int) (k j : Nat) (h : j < k * 2) : (ms t k)[j]? = some (mat t j) := by
  induction k generalizing j with
  | zero => omega
  | succ k ih =>
    rw [ms_succ]
    match j with
    | 0 => rfl
    | 1 => rfl
    | j + 2 =>
      have := ih j (by omega)
      have e : mat t (j + 2) = mat t j := by simp [mat]
      rw [e]
      simpa using this
theorem ms_add (t : Int) (a b : Nat) : ms t (a + b) = ms t a ++ ms t b := by
  simp only [ms]; rw [← List.replicate_append_replicate, keyCells_append]
theorem ms_ext {t : Int} {l : List Value} {k : Nat} (hl : l.length = k * 2) (h : ∀ j, j < k * 2 → l[j]? = some (mat t j)) : l = ms t k := by
  apply List.ext_getElem?
  intro j
  by_cases hj : j < k * 2
  · rw [h j hj, ms_get t k j hj]
  · rw [List.getElem?_eq_none (by omega), List.getElem?_eq_none (by rw [ms_length]; omega)]
theorem ms_one (t : Int) (k : Nat) : ∀ u ∈ ms t k, u.oneCell' = true := keyCells_one _

def ownM (t : Int) (w : World) (base : Nat) (v : Value) (n : Nat) : Prop := w.ownsRow base 89 2 v n (ms t n)

set_option maxRecDepth 100000 in
theorem append_M (t : Int) (w : World) (ty : TypeId) (base : Nat) (v : Value) (n : Nat) (hown : ownM t w base v n) (ad : Addr) (m c : Nat) (hnews : ∀ j u, (ms t m)[j]? = some u → w.cell? (ad.add j) = some u)
    (hm : 0 < m) (hb : n + m ≤ 1000000000000) (hbase : base ≤ w.heap.size) :
    ∃ g cap w', (Builtin.append_ #[86, 86] ty #[v, .slice (some ad) m c]).run Tryz.prog w = .ok (.slice (some ⟨g, 0, none⟩) (n + m) cap) w' ∧
      ownM t w' base (.slice (some ⟨g, 0, none⟩) (n + m) cap) (n + m) ∧ w.grownBy w' v.ownBlock ∧ (∀ base' u k, ownM t w base' u k → ownM t w' base' u k) ∧ g < w'.heap.size ∧ (v.ownBlock = some g ∨ g = w.heap.size) := by
  obtain ⟨i0, hi, hz0, hz1, hz2⟩ := info_parts infoKey
  obtain ⟨g, cap, w', hr, h2, h3, h4, h5⟩ := run_append_lies (P := Tryz.prog) w 86 ty base 89 i0 (.agg #[.int .i64 0, .int .i64 0]) 2 16 Tryz.underlying86 hi hz0 hz1 hz2 rfl (by omega) v n (ms t n) hown ad m c (ms t m) (ms_length t m) hnews (ms_one t _) hm (by unfold maxLen; omega) (by omega) hbase _ rfl
  refine ⟨g, cap, w', hr, ?_, h3, ?_, h5, h4⟩
  · unfold ownM; rw [ms_add t]; exact h2
  · intro base' u k hu
    rcases hown.2 with ⟨rfl, rfl⟩ | ⟨g0, cap0, cur, rfl, hbg, hg, hnc, hcm, hcs, htake⟩
    · exact World.ownsRow.kept hu h3 (by cases hv : u.ownBlock <;> simp [Value.ownBlock])
    · by_cases hroom : n + m ≤ cap0
      · have hfit : n * i0.size + (ms t m).length ≤ cur.size := by rw [hz1, hcs, ms_length, ← Nat.add_mul]; exact Nat.mul_le_mul_right _ hroom
        have hr' := run_append_room (P := Tryz.prog) w 86 ty 89 i0 Tryz.underlying86 hi g0 n cap0 cur hg ad m c (ms t m) (by rw [hz1]; exact ms_length t m) hnews (ms_one t _) hroom hfit
        rw [hr] at hr'
        simp only [Result.ok.injEq] at hr'
        obtain ⟨-, hw'⟩ := hr'
        rw [hz1] at hw'
        rcases hu.2 with ⟨rfl, rfl⟩ | ⟨g1, cap1, cur1, rfl, hbg1, hg1, hnc1, hcm1, hcs1, htake1⟩
        · exact ⟨by simp [ms_length], .inl ⟨rfl, rfl⟩⟩
        · by_cases hgg : g1 = g0
          · subst hgg
            rw [hg] at hg1
            simp only [Option.some.injEq, Obj.cells.injEq, and_true] at hg1
            obtain ⟨rfl, -⟩ := hg1
            have hsz : cur.toList.length = cap0 * 2 := by simpa using hcs
            refine ⟨ms_length t k, .inr ⟨g1, cap1, _, rfl, hbg1, (by rw [hw']; exact setRow_heap w g1 cur _ _ _ hg), hnc1, hcm1, ?_, ?_⟩⟩
            · simp only [List.size_toArray, List.length_append, List.length_take, List.length_drop, ms_length, hsz]
              have : (n + m) * 2 ≤ cap0 * 2 := Nat.mul_le_mul_right _ hroom
              have : cap0 * 2 = cap1 * 2 := by rw [← hcs, ← hcs1]
              omega
            · have hk2 : k * 2 ≤ cap0 * 2 := by
                have : cap0 * 2 = cap1 * 2 := by rw [← hcs, ← hcs1]
                have : k * 2 ≤ cap1 * 2 := Nat.mul_le_mul_right _ hnc1
                omega
              have hnm : (n + m) * 2 ≤ cap0 * 2 := Nat.mul_le_mul_right _ hroom
              refine ms_ext ?_ ?_
              · simp only [List.length_take, List.length_append, List.length_drop, ms_length, hsz]
                omega
              · intro j hj
                rw [List.getElem?_take, if_pos hj]
                by_cases j1 : j < n * 2
                · rw [List.append_assoc, List.getElem?_append_left (by simp only [List.length_take, hsz]; omega), htake, ms_get t n j j1]
                · by_cases j2 : j < n * 2 + m * 2
                  · rw [List.getElem?_append_left (by simp only [List.length_append, List.length_take, hsz, ms_length]; omega), List.getElem?_append_right (by simp only [List.length_take, hsz]; omega)]
                    rw [show (List.take (n * 2) cur.toList).length = n * 2 from by simp only [List.length_take, hsz]; omega, ms_get t m _ (by omega)]
                    congr 1
                    unfold mat
                    rw [show (j - n * 2) % 2 = j % 2 from by omega]
                  · rw [List.getElem?_append_right (by simp only [List.length_append, List.length_take, hsz, ms_length]; omega), List.getElem?_drop]
                    rw [show (List.take (n * 2) cur.toList ++ ms t m).length = n * 2 + m * 2 from by simp only [List.length_append, List.length_take, hsz, ms_length]; omega]
                    rw [show n * 2 + (ms t m).length + (j - (n * 2 + m * 2)) = j from by rw [ms_length]; omega]
                    have := ms_get t k j hj
                    rw [← htake1, List.getElem?_take, if_pos hj] at this
                    exact this
          · exact World.ownsRow.kept hu h3 (by simp [Value.ownBlock, hgg])
      · have holds : ∀ j u, (ms t n)[j]? = some u → w.cell? ((⟨g0, 0, none⟩ : Addr).add j) = some u := World.ownsRow.cells hown (g := g0) rfl
        have hr' := run_append_grow (P := Tryz.prog) w 86 ty 89 i0 (.agg #[.int .i64 0, .int .i64 0]) Tryz.underlying86 hi hz0 ⟨g0, 0, none⟩ n cap0 (ms t n) (by rw [hz1]; exact ms_length t n) holds ad m c (ms t m) (by rw [hz1]; exact ms_length t m) hnews (by omega) (by omega) (by rw [hz2]; exact growslice_fits (by omega) (by omega))
        rw [hr] at hr'
        simp only [Result.ok.injEq] at hr'
        rw [hr'.2]
        exact World.ownsRow.alloc hu _

end Go.Proofs.YtlafkpaljibonaaGreat

namespace Go.Proofs.YtlafkpaljibonaaGreat
open Go.RowKit

set_option maxRecDepth 100000 in
set_option maxHeartbeats 2000000 in
theorem marked_any {o : Nat → Tag} {w : World} {t : Tag} {v : Value} {ls : List Value} (each : Nat) (he : each = 1 ∨ each = 3) (h : Row o w t 86 1 v ls.length ls) (hmax : ls.length ≤ 1000000000000)
    (hm : ∀ k (hk : k < ls.length), ∃ n, w.ownsRow 0 89 2 ls[k] n (ms (-1 - ((k / each : Nat) : Int)) n)) :
    Calls Tryz.prog 22 #[v, .int .i64 each] w fun r w' => r = .returned (.bool true) ∧ Below w.heap.size w w' := by
  obtain ⟨ao, c, rfl, hn, hg0⟩ := h.form
  have hrow := h.1
  go_enter Tryz.func22, Tryz.ntmps22
  go_wp2
  go_loopw [5] (fun i w' => ∃ k : Nat, k ≤ ls.length ∧ i = .int .i64 k ∧ Below w.heap.size w w') (fun i _ => ls.length - (intOf i).toNat)
  case atStart => exact ⟨0, by omega, rfl, Below.refl _ _⟩
  case round =>
    obtain ⟨k, hk, rfl, hb⟩ := hrel
    by_cases hlt : k < ls.length
    · obtain ⟨g, rfl, hgo, hg⟩ := hg0 (by omega)
      obtain ⟨n, hk1⟩ := hm k hlt
      obtain ⟨al, cl, hv, hln, hl0⟩ := own_slice hk1
      have c0 := hrow.cellAt k (by omega)
      rw [List.getElem?_eq_getElem hlt, hv, ← hb.cell (by exact hg)] at c0
      rw [hv] at hk1
      have hdiv : (k : Int) / (each : Int) = ((k / each : Nat) : Int) := by simp
      have hdv : ((k / each : Nat) : Int) ≤ k := by have := Nat.div_le_self k each; omega
      have hdp : 0 ≤ ((k / each : Nat) : Int) := Int.natCast_nonneg _
      generalize ((k / each : Nat) : Int) = D at *
      clear hm hv hrow
      go_wp2
      go_loopw [6] (fun i w' => ∃ j : Nat, j ≤ n ∧ i = .int .i64 j ∧ Below w.heap.size w w') (fun i _ => n - (intOf i).toNat)
      case atStart => exact ⟨0, by omega, rfl, hb⟩
      case round =>
        obtain ⟨j, hj, rfl, hbj⟩ := hrel
        rw [hb.cell (by exact hg), ← hbj.cell (by exact hg)] at c0
        by_cases hjl : j < n
        · obtain ⟨gl, rfl, -, hgl⟩ := hl0 (by omega)
          have d0 := hk1.cellAt (j * 2) (by omega)
          have d1 := hk1.cellAt (j * 2 + 1) (by omega)
          rw [ms_get _ n _ (by omega), ← hbj.cell (by exact hgl)] at d0 d1
          have e0 : mat (-1 - D) (j * 2) = .int .i64 (-1 - D) := by simp [mat]
          have e1 : mat (-1 - D) (j * 2 + 1) = .int .i64 (-1) := by simp [mat]
          rw [e0] at d0
          rw [e1] at d1
          clear e0 e1
          rcases he with rfl | rfl
          · have hD : D = k := by simpa using hdiv.symm
            subst hD
            go_wp2
            go_quiet (fail)
            go_wp2
            exact ⟨⟨j + 1, by omega, by go_num, below_dN hbj⟩, by simp [intOf]; omega⟩
          · have hD : (k : Int) / 3 = D := by simpa using hdiv
            have hD2 : (k : Int).tdiv 3 = D := by rw [Int.tdiv_eq_ediv_of_nonneg (by omega)]; exact hD
            go_wp2
            go_quiet (fail)
            go_wp2
            exact ⟨⟨j + 1, by omega, by go_num, below_dN hbj⟩, by simp [intOf]; omega⟩
        · go_wp2
          exact ⟨⟨k + 1, by omega, by go_num, hbj⟩, by simp [intOf]; omega⟩
    · go_wp2
      go_ret
      exact ⟨rfl, hb⟩

end Go.Proofs.YtlafkpaljibonaaGreat

namespace Go.Proofs.YtlafkpaljibonaaGreat
open Go.RowKit

/-- What belongs to others than p + 1, p + 2, p + 3 is as it was. -/
structure FrX (p : Nat) (o : Nat → Tag) (w : World) (o' : Nat → Tag) (w' : World) : Prop where
  os : w'.os = w.os
  tape : w'.tape = w.tape
  output : w'.output = w.output
  size : w.heap.size ≤ w'.heap.size
  clean : Clean o' w'
  tags : ∀ g, g < w.heap.size → o' g = o g
  block : ∀ g, g < w.heap.size → (o g).1 ≤ p ∨ p + 3 < (o g).1 → w'.heap[g]? = w.heap[g]?

theorem FrX.trans {p : Nat} {o o1 o2 : Nat → Tag} {w w1 w2 : World} (h : FrX p o w o1 w1) (k : FrX p o1 w1 o2 w2) : FrX p o w o2 w2 :=
  ⟨k.os.trans h.os, k.tape.trans h.tape, k.output.trans h.output, Nat.le_trans h.size k.size, k.clean,
   fun g hg => (k.tags g (Nat.lt_of_lt_of_le hg h.size)).trans (h.tags g hg),
   fun g hg hq => (k.block g (Nat.lt_of_lt_of_le hg h.size) (by rw [h.tags g hg]; exact hq)).trans (h.block g hg hq)⟩

theorem Fr.toX {p q : Nat} {o o' : Nat → Tag} {w w' : World} (h : Fr q o w o' w') (hq : p < q ∧ q ≤ p + 3) : FrX p o w o' w' :=
  ⟨h.os, h.tape, h.output, h.size, h.clean, h.tags, fun g hg h0 => h.block g hg (by omega)⟩

theorem FrX.of_below {p : Nat} {o : Nat → Tag} {w w' : World} (hc : Clean o w) (h : Below w.heap.size w w') : FrX p o w o w' := (Fr.of_below (q := p + 1) hc h).toX (by omega)

theorem FrX.below {p : Nat} {o o1 : Nat → Tag} {w w1 w2 : World} (h : FrX p o w o1 w1) (k : Below w1.heap.size w1 w2) : FrX p o w o1 w2 := h.trans (FrX.of_below h.clean k)

structure GMem (p : Nat) (o : Nat → Tag) (w : World) (gb fb wb : Nat) (ls ts : List Value) (lv tv : Value) : Prop where
  blk : Blk w gb 45 [.pointer (some ⟨fb, 0, none⟩), .pointer (some ⟨wb, 0, none⟩), lv, tv]
  tag : o gb = (p + 3, 1)
  lists : Row o w (p + 3, 2) 86 1 lv ls.length ls
  tails : Row o w (p + 3, 3) 86 1 tv ts.length ts
  len : ts.length = 3 * ls.length
  ml : ∀ k (hk : k < ls.length), ∃ n, Row o w (p + 3, 9) 89 2 ls[k] n (ms (-1 - (k : Int)) n)
  mt : ∀ k (hk : k < ts.length), ∃ n, Row o w (p + 3, 9) 89 2 ts[k] n (ms (-1 - ((k / 3 : Nat) : Int)) n)

section
variable {p : Nat} {o o' : Nat → Tag} {w w' : World} {gb fb wb : Nat} {ls ts : List Value} {lv tv : Value} {q : Nat}

theorem GMem.fr (h : GMem p o w gb fb wb ls ts lv tv) (hf : Fr q o w o' w') (hq : p + 3 ≠ q) : GMem p o' w' gb fb wb ls ts lv tv :=
  ⟨h.blk.keep (hf.block gb h.blk.lt (by rw [h.tag]; exact hq)), (hf.tags gb h.blk.lt).trans h.tag, h.lists.fr hf hq, h.tails.fr hf hq, h.len,
   fun k hk => by obtain ⟨n, hn⟩ := h.ml k hk; exact ⟨n, hn.fr hf hq⟩, fun k hk => by obtain ⟨n, hn⟩ := h.mt k hk; exact ⟨n, hn.fr hf hq⟩⟩

theorem GMem.below (h : GMem p o w gb fb wb ls ts lv tv) (hf : Below w.heap.size w w') : GMem p o w' gb fb wb ls ts lv tv :=
  ⟨h.blk.below hf, h.tag, h.lists.below hf, h.tails.below hf, h.len,
   fun k hk => by obtain ⟨n, hn⟩ := h.ml k hk; exact ⟨n, hn.below hf⟩, fun k hk => by obtain ⟨n, hn⟩ := h.mt k hk; exact ⟨n, hn.below hf⟩⟩

theorem GMem.fc (h : GMem p o w gb fb wb ls ts lv tv) : w.cell? ⟨gb, 0, none⟩ = some (.pointer (some ⟨fb, 0, none⟩)) := h.blk.cell rfl
theorem GMem.wc (h : GMem p o w gb fb wb ls ts lv tv) : w.cell? ⟨gb, 1, none⟩ = some (.pointer (some ⟨wb, 0, none⟩)) := h.blk.cell rfl
theorem GMem.lc (h : GMem p o w gb fb wb ls ts lv tv) : w.cell? ⟨gb, 2, none⟩ = some lv := h.blk.cell rfl
theorem GMem.tc (h : GMem p o w gb fb wb ls ts lv tv) : w.cell? ⟨gb, 3, none⟩ = some tv := h.blk.cell rfl

/-- All three: the game, the program's foreman, the document's. -/
structure Trio (p : Nat) (o : Nat → Tag) (w : World) (gb fb wb : Nat) (ls ts : List Value) (lv tv : Value) (m : PM) (sv : Nat → Value) (rv : Value) (M : RM) (nv : Nat → Value) (kv qv : Value) : Prop where
  g : GMem p o w gb fb wb ls ts lv tv
  f : FMem o (p + 1) w fb m sv rv
  r : RMem o (p + 2) w wb M nv kv qv

variable {m : PM} {sv : Nat → Value} {rv : Value} {M : RM} {nv : Nat → Value} {kv qv : Value}

theorem Trio.below (h : Trio p o w gb fb wb ls ts lv tv m sv rv M nv kv qv) (hf : Below w.heap.size w w') : Trio p o w' gb fb wb ls ts lv tv m sv rv M nv kv qv :=
  ⟨h.g.below hf, h.f.below hf, h.r.below hf⟩

set_option maxRecDepth 100000 in
set_option maxHeartbeats 1000000 in
theorem line_any (h : Trio p o w gb fb wb ls ts lv tv m sv rv M nv kv qv) (n : Int) (h1 : m.open_ n = M.open_ n) (h2 : m.sent_ n = M.sent_ n) (hmax : ∀ k, k < 4 → (M.line k).sent.length ≤ 1000000000000) :
    Calls Tryz.prog 17 #[.pointer (some ⟨gb, 0, none⟩), .int .i64 n] w fun r w' => r = .returned (.bool true) ∧ Below w.heap.size w w' := by
  have c0 := h.g.fc
  have c1 := h.g.wc
  have hgl := h.g.blk.lt
  have k1 : Hid (Calls Tryz.prog 33 #[.pointer (some ⟨fb, 0, none⟩), .int .i64 n] w fun r w' => r = .returned (.bool (m.open_ n)) ∧ w' = w) := open_any h.f n
  have k2 : Hid (Calls Tryz.prog 34 #[.pointer (some ⟨wb, 0, none⟩), .int .i64 n] w fun r w' => r = .returned (.bool (m.open_ n)) ∧ w' = w) := h1 ▸ rOpen_any h.r n
  have k3 : Hid (Calls Tryz.prog 35 #[.pointer (some ⟨fb, 0, none⟩), .int .i64 n] w fun r w' => r = .returned (.string (m.sent_ n)) ∧ w' = w) := sent_any h.f n
  have k4 : Hid (Calls Tryz.prog 36 #[.pointer (some ⟨wb, 0, none⟩), .int .i64 n] w fun r w' => r = .returned (.string (m.sent_ n)) ∧ Below w.heap.size w w') := h2 ▸ rSent_any h.r n hmax
  clear h h1 h2 hmax
  generalize m.open_ n = P at *
  generalize m.sent_ n = S at *
  go_enter Tryz.func17, Tryz.ntmps17
  go_wp2_with fail
  refine k1.out.mono ?_
  rintro e w1 ⟨rfl, rfl⟩
  go_wp2_with fail
  refine k2.out.mono ?_
  rintro e w2 ⟨rfl, rfl⟩
  go_wp2_with fail
  refine k3.out.mono ?_
  rintro e w3 ⟨rfl, rfl⟩
  go_wp2_with fail
  refine k4.out.mono ?_
  rintro e w4 ⟨rfl, hb⟩
  go_wp2
  go_ret
  exact ⟨by simp, hb⟩

set_option maxRecDepth 100000 in
set_option maxHeartbeats 1000000 in
theorem gslot_any (h : Trio p o w gb fb wb ls ts lv tv m sv rv M nv kv qv) (hwf : M.wf) (hlv : ∀ k, k < 6 → M.live k = false) (n : Int) (h1 : M.slotV n = m.slotV n) (h2 : M.jobV n = m.jobV n) (h3 : M.stE n 3 = m.jobE n)
    (hag : ∃ st old served since conn id, m.slotV n = .agg #[.int .i64 st, .bool old, .int .i64 served, .int .i64 since, .int .i64 conn, .int .i64 id]) :
    Calls Tryz.prog 18 #[.pointer (some ⟨gb, 0, none⟩), .int .i64 n] w fun r w' => r = .returned (.bool true) ∧ Below w.heap.size w w' := by
  obtain ⟨st, old, served, since, conn, id, hV⟩ := hag
  have k1 : Hid (∀ w', FMem o (p + 1) w' fb m sv rv → Calls Tryz.prog 37 #[.pointer (some ⟨fb, 0, none⟩), .int .i64 n] w' fun r w'' => r = .returned (.tuple #[m.slotV n, .int .i64 (slotE n)]) ∧ Below w'.heap.size w' w'') := fun w' h' => slot_any h' n
  have k2 : Hid (∀ w', RMem o (p + 2) w' wb M nv kv qv → Calls Tryz.prog 38 #[.pointer (some ⟨wb, 0, none⟩), .int .i64 n] w' fun r w'' => r = .returned (.tuple #[m.slotV n, .int .i64 (slotE n)]) ∧ Below w'.heap.size w' w'') := fun w' h' => h1 ▸ rSlot_any h' hwf hlv n
  have k3 : Hid (∀ w', FMem o (p + 1) w' fb m sv rv → Calls Tryz.prog 39 #[.pointer (some ⟨fb, 0, none⟩), .int .i64 n] w' fun r w'' => r = .returned (.tuple #[.string (m.jobV n), .int .i64 (m.jobE n)]) ∧ w'' = w') := fun w' h' => job_any h' n
  have k4 : Hid (∀ w', RMem o (p + 2) w' wb M nv kv qv → Calls Tryz.prog 40 #[.pointer (some ⟨wb, 0, none⟩), .int .i64 n] w' fun r w'' => r = .returned (.tuple #[.string (m.jobV n), .int .i64 (m.jobE n)]) ∧ Below w'.heap.size w' w'') := fun w' h' => by have := rJob_any h' hwf n; rw [h2, h3] at this; exact this
  clear h1 h2 h3
  rw [hV] at k1 k2
  clear hV
  generalize m.jobV n = J at *
  generalize m.jobE n = E at *
  generalize slotE n = SE at *
  have c0 := h.g.fc
  have c1 := h.g.wc
  go_enter Tryz.func18, Tryz.ntmps18
  go_wp2_with fail
  refine (k1.out _ h.f).mono ?_
  rintro e w1 ⟨rfl, hb1⟩
  have h1 := h.below hb1
  clear c0 c1
  have c1 := fun ob => (h1.below ((Below.refl _ _).alloc (Nat.le_refl _) ob)).g.wc
  go_wp2_with fail
  have hA := Blk.made w1 59 [.int .i64 st, .bool old, .int .i64 served, .int .i64 since, .int .i64 conn, .int .i64 id]
  have hbA : Below w1.heap.size w1 (w1.alloc (.cells #[.int .i64 st, .bool old, .int .i64 served, .int .i64 since, .int .i64 conn, .int .i64 id] 59)) := (Below.refl _ _).alloc (Nat.le_refl _) _
  have h2 := h1.below hbA
  refine (k2.out _ h2.r).mono ?_
  rintro e w2 ⟨rfl, hb2⟩
  have hA2 := hA.below hb2
  have h3 := h2.below hb2
  have hbw : Below w.heap.size w w2 := hb1.trans ((hbA.trans (hb2.mono (by simp))).mono hb1.size)
  clear c1 hA hbA hb1 hb2 h1 h2
  have a0 := fun ob => (hA2.below ((Below.refl _ _).alloc (Nat.le_refl _) ob)).cell (k := 0) (u := .int .i64 st) rfl
  have a1 := fun ob => (hA2.below ((Below.refl _ _).alloc (Nat.le_refl _) ob)).cell (k := 1) (u := .bool old) rfl
  have a2 := fun ob => (hA2.below ((Below.refl _ _).alloc (Nat.le_refl _) ob)).cell (k := 2) (u := .int .i64 served) rfl
  have a3 := fun ob => (hA2.below ((Below.refl _ _).alloc (Nat.le_refl _) ob)).cell (k := 3) (u := .int .i64 since) rfl
  have a4 := fun ob => (hA2.below ((Below.refl _ _).alloc (Nat.le_refl _) ob)).cell (k := 4) (u := .int .i64 conn) rfl
  have a5 := fun ob => (hA2.below ((Below.refl _ _).alloc (Nat.le_refl _) ob)).cell (k := 5) (u := .int .i64 id) rfl
  have c0 := fun ob => (h3.below ((Below.refl _ _).alloc (Nat.le_refl _) ob)).g.fc
  have c1 := fun ob => (h3.below ((Below.refl _ _).alloc (Nat.le_refl _) ob)).g.wc
  clear hA2
  go_wp2_with fail
  refine (num_any _ _).mono ?_
  rintro e w3 ⟨rfl, rfl⟩
  go_wp2_with fail
  have h4 := h3.below (w' := w2.alloc (.cells #[.int .i64 st, .bool old, .int .i64 served, .int .i64 since, .int .i64 conn, .int .i64 id] 59)) ((Below.refl _ _).alloc (Nat.le_refl _) _)
  refine (k3.out _ h4.f).mono ?_
  rintro e w4 ⟨rfl, rfl⟩
  go_wp2_with fail
  refine (k4.out _ h4.r).mono ?_
  rintro e w5 ⟨rfl, hb5⟩
  clear a0 a1 a2 a3 a4 a5 c0 c1
  go_wp2_with fail
  refine (num_any _ _).mono ?_
  rintro e w6 ⟨rfl, rfl⟩
  go_wp2
  go_ret
  refine ⟨by simp, ?_⟩
  exact hbw.trans ((((Below.refl w2.heap.size w2).alloc (Nat.le_refl _) _).trans (hb5.mono (by simp))).mono hbw.size)

end
end Go.Proofs.YtlafkpaljibonaaGreat
