import Derived.Test.YtlafkpaljibonaaGreatJ11
import Derived.Test.YtlafkpaljibonaaGreatJ3
import Derived.Test.YtlafkpaljibonaaGreatJ5
namespace Go.Proofs.YtlafkpaljibonaaGreat
open Go.RowKit

/-- A key that collects: its contents come to their end, or one more comes. -/
def PM.inAt (m : PM) (k : Nat) (i : Int) (c : ByteArray) (a : Nat) (r : Req) : PM :=
  cond (r.stage == 0) (cond (c.toList == []) (m.enqueue k i r.body) (cond (decide (500 < (r.body ++ c).size)) (m.endKey k i 4) { m with req := m.req.set a { r with body := r.body ++ c } })) m
def PM.in_ (m : PM) (k : Nat) (i : Int) (c : ByteArray) : PM :=
  match m.find k i with
  | some a => m.inAt k i c a (m.req.getD a noReq)
  | none => m

section
variable {o : Nat → Tag} {q : Nat} {w : World} {b : Nat} {m : PM} {sv : Nat → Value} {rv : Value}

set_option maxRecDepth 100000 in
set_option maxHeartbeats 4000000 in
theorem in_any (h : FMem o q w b m sv rv) (hq : q ≠ 0) (k : Nat) (hk : k < 4) (i : Int) (c : ByteArray) (hs : (m.con k).sent.length ≤ 1000000000000) (hmax : m.req.length ≤ 100000000000) (hc : c.size ≤ 1000000000) (hbd : ∀ r ∈ m.req, r.body.size ≤ 1000000000) :
    Calls Tryz.prog 120 #[.pointer (some ⟨b, 0, none⟩), .agg #[.int .i64 k, .int .i64 i], .string c] w fun r w' => r = .returned (.tuple #[]) ∧ ∃ o' sv' rv', FMem o' q w' b (m.in_ k i c) sv' rv' ∧ Fr q o w o' w' := by
  have kf : Hid (∀ w', FMem o q w' b m sv rv → Calls Tryz.prog 118 #[.pointer (some ⟨b, 0, none⟩), .agg #[.int .i64 k, .int .i64 i]] w' fun r w'' => r = .returned (fwV (m.find k i)) ∧ Below w'.heap.size w' w'') := fun w' h' => find_any h' k i
  have x0 := Blk.made w 89 [.int .i64 k, .int .i64 i]
  have hb0 : Below w.heap.size w (w.alloc (.cells #[.int .i64 k, .int .i64 i] 89)) := (Below.refl _ _).alloc (Nat.le_refl _) _
  have hA := h.below hb0
  have frA := Fr.of_below (q := q) h.clean hb0
  unfold PM.in_
  cases hf : m.find k i with
  | none =>
    rw [hf] at kf
    unfold fwV at kf
    simp only
    go_enter Tryz.func120, Tryz.ntmps120
    go_wp2_with fail
    refine (kf.out _ hA).mono ?_
    rintro e w1 ⟨rfl, hb1⟩
    go_wp2
    exact bodyPost_ret (v := .tuple #[]) (by simp [results, Tryz.results120, go_sem]) rfl ⟨rfl, o, sv, rv, hA.below hb1, frA.below hb1⟩
  | some a =>
    obtain ⟨hal, hconn, hid⟩ := m.find_some k i a hf
    rw [hf] at kf
    unfold fwV at kf
    simp only
    have hgd : m.req.getD a noReq = m.req[a] := by simp [List.getD, List.getElem?_eq_getElem hal]
    rw [hgd]
    have hbody := hbd m.req[a] (List.getElem_mem hal)
    unfold PM.inAt
    have hrow : ∀ w', FMem o q w' b m sv rv → ∃ g cp, rv = .slice (some ⟨g, 0, none⟩) m.req.length cp ∧ g < w'.heap.size ∧
        w'.cell? ⟨g, a * 4, none⟩ = some (.int .i64 m.req[a].conn) ∧ w'.cell? ⟨g, a * 4 + 1, none⟩ = some (.int .i64 m.req[a].id) ∧ w'.cell? ⟨g, a * 4 + 2, none⟩ = some (.int .i64 m.req[a].stage) ∧ w'.cell? ⟨g, a * 4 + 3, none⟩ = some (.string m.req[a].body) := by
      intro w' h'
      obtain ⟨g, cp, e, h1, -, -, hc⟩ := req_cells h' a hal
      exact ⟨g, cp, e, h1, hc⟩
    have HR : Hid _ := hrow
    have hset : Hid (∀ x : ByteArray, reqCells (m.req.set a { m.req[a] with body := x }) = (reqCells m.req).set (a * 4 + 3) (.string x)) := fun x => reqCells_body m.req a hal x
    clear hrow hbd hgd
    generalize hr : m.req[a] = r at *
    obtain ⟨rc, ri, rs, rb⟩ := r
    simp only at hconn hid hbody
    subst hconn hid
    clear hr
    by_cases h0 : rs = 0
    · subst h0
      simp only [beq_self_eq_true, cond_true]
      cases hE : (c.toList == [])
      · simp only [cond_false]
        by_cases h5 : 500 < (rb ++ c).size
        · simp only [h5, decide_true, cond_true]
          go_enter Tryz.func120, Tryz.ntmps120
          go_wp2_with fail
          refine (kf.out _ hA).mono ?_
          rintro e w1 ⟨rfl, hb1⟩
          have hm1 := hA.below hb1
          have x1 := x0.below hb1
          have fr1 := frA.below hb1
          obtain ⟨g, cp, hrv, hgl, c0, c1, c2, c3⟩ := HR.out _ hm1
          have z0 := hm1.reqv
          rw [hrv] at z0
          have halI : (a : Int) < m.req.length := by omega
          go_wp2_with fail
          refine (joined_any rb c _ (by omega) (by omega)).mono ?_
          rintro e w2 ⟨rfl, hb2⟩
          have hb2' : Below w1.heap.size w1 w2 := ((Below.refl _ _).alloc (Nat.le_refl _) _).trans (hb2.mono (by simp))
          have hm2 := hm1.below hb2'
          have x2 := x1.below hb2'
          have fr2 := fr1.below hb2'
          have y0 := x2.cell (k := 0) (u := .int .i64 k) rfl
          have y1 := x2.cell (k := 1) (u := .int .i64 ri) rfl
          have h5I : (500 : Int) < (rb.size : Int) + (c.size : Int) := by rw [ByteArray.size_append] at h5; omega
          clear c0 c1 c2 c3 z0
          go_wp2_with fail
          refine (end_any hm2 hq k hk ri 4 (by omega) (by omega) hs (by omega)).mono ?_
          rintro e w3 ⟨rfl, o3, sv3, rv3, hm3, fr3⟩
          go_wp2
          exact bodyPost_ret (v := .tuple #[]) (by simp [results, Tryz.results120, go_sem]) rfl ⟨rfl, o3, sv3, rv3, hm3, fr2.trans fr3⟩
        · simp only [h5, decide_false, cond_false]
          go_enter Tryz.func120, Tryz.ntmps120
          go_wp2_with fail
          refine (kf.out _ hA).mono ?_
          rintro e w1 ⟨rfl, hb1⟩
          have hm1 := hA.below hb1
          have x1 := x0.below hb1
          have fr1 := frA.below hb1
          obtain ⟨g, cp, hrv, hgl, c0, c1, c2, c3⟩ := HR.out _ hm1
          have z0 := hm1.reqv
          rw [hrv] at z0
          have halI : (a : Int) < m.req.length := by omega
          go_wp2_with fail
          refine (joined_any rb c _ (by omega) (by omega)).mono ?_
          rintro e w2 ⟨rfl, hb2⟩
          have hb2' : Below w1.heap.size w1 w2 := ((Below.refl _ _).alloc (Nat.le_refl _) _).trans (hb2.mono (by simp))
          have hm2 := hm1.below hb2'
          have fr2 := fr1.below hb2'
          have h5I : ¬ (500 : Int) < (rb.size : Int) + (c.size : Int) := by rw [ByteArray.size_append] at h5; omega
          clear c0 c1 c2 c3 z0
          obtain ⟨g', cp', hrv', hgl', c0, c1, c2, c3⟩ := HR.out _ hm2
          have z0 := hm2.reqv
          rw [hrv'] at z0
          subst hrv'
          have fg : ∀ j, w2.frozen? ⟨g', j, none⟩ = false := fun j => hm2.reqs.1.frozenAt j
          obtain ⟨hm3, fr3⟩ := hm2.setReq rfl (a * 4 + 3) (.string (rb ++ c)) _ (by simp) (hset.out (rb ++ c))
          go_wp2
          refine bodyPost_end (v := .tuple #[]) (by simp [results, Tryz.results120, go_sem]) rfl ⟨rfl, ?_⟩
          exact ⟨o, sv, _, hm3, fr2.trans fr3⟩
      · simp only [cond_true]
        go_enter Tryz.func120, Tryz.ntmps120
        go_wp2_with fail
        refine (kf.out _ hA).mono ?_
        rintro e w1 ⟨rfl, hb1⟩
        have hm1 := hA.below hb1
        have fr1 := frA.below hb1
        obtain ⟨g, cp, hrv, hgl, c0, c1, c2, c3⟩ := HR.out _ hm1
        have z0 := hm1.reqv
        rw [hrv] at z0
        have halI : (a : Int) < m.req.length := by omega
        go_wp2_with fail
        refine (enqueue_any (hm1.alloc _) hq k hk ri 0 rb hs hmax).mono ?_
        rintro e w3 ⟨rfl, o3, sv3, rv3, hm3, fr3⟩
        have frB := fr1.below ((Below.refl w1.heap.size w1).alloc (Nat.le_refl _) (.cells #[.int .i64 k, .int .i64 ri, .int .i64 0, .string rb] 106))
        go_wp2
        exact bodyPost_ret (v := .tuple #[]) (by simp [results, Tryz.results120, go_sem]) rfl ⟨rfl, o3, sv3, rv3, hm3, frB.trans fr3⟩
    · have h0' : (rs == 0) = false := by simpa using h0
      simp only [h0', cond_false]
      go_enter Tryz.func120, Tryz.ntmps120
      go_wp2_with fail
      refine (kf.out _ hA).mono ?_
      rintro e w1 ⟨rfl, hb1⟩
      have hm1 := hA.below hb1
      obtain ⟨g, cp, hrv, hgl, c0, c1, c2, c3⟩ := HR.out _ hm1
      have z0 := hm1.reqv
      rw [hrv] at z0
      have halI : (a : Int) < m.req.length := by omega
      go_wp2
      exact bodyPost_ret (v := .tuple #[]) (by simp [results, Tryz.results120, go_sem]) rfl ⟨rfl, o, sv, rv, hm1, frA.below hb1⟩

end
end Go.Proofs.YtlafkpaljibonaaGreat

namespace Go.Proofs.YtlafkpaljibonaaGreat
open Go.RowKit

def PM.take (m : PM) (k : Nat) (r : Rec) : PM :=
  if r.1 = 1 then m.begin_ k r.2.1 r.2.2 else if r.1 = 5 then m.in_ k r.2.1 r.2.2 else if r.1 = 2 then m.abort k r.2.1 else m

/-- Nothing has grown beyond R requests, S bytes sent, bodies of 1000 bytes. -/
structure PM.small (m : PM) (R S : Nat) : Prop where
  req : m.req.length ≤ R
  sent : ∀ k, k < 4 → (m.con k).sent.length ≤ S
  body : ∀ r ∈ m.req, r.body.size ≤ 1000

section
variable {m : PM} {R S : Nat}

theorem PM.small.mono (h : m.small R S) {R' S' : Nat} (hR : R ≤ R') (hS : S ≤ S') : m.small R' S' :=
  ⟨Nat.le_trans h.req hR, fun k hk => Nat.le_trans (h.sent k hk) hS, h.body⟩

theorem PM.small.of_eq {m' : PM} (h : m.small R S) (h1 : m'.req = m.req) (h2 : m'.con = m.con) : m'.small R S :=
  ⟨by rw [h1]; exact h.req, fun k hk => by rw [h2]; exact h.sent k hk, by rw [h1]; exact h.body⟩

theorem PM.small.drop (h : m.small R S) (c i : Int) : (m.drop c i).small R S := by
  have e : (m.drop c i).req = withoutL m.req c i := drop_req m c i
  have e2 : (m.drop c i).con = m.con := by unfold PM.drop; cases m.slotOf c i <;> rfl
  refine ⟨?_, fun k hk => by rw [e2]; exact h.sent k hk, ?_⟩
  · rw [e]; exact Nat.le_trans (withoutL_len _ _ _) h.req
  · rw [e]; intro r hr; exact h.body r (List.mem_filter.1 hr).1

theorem PM.small.sendB (h : m.small R S) (k : Nat) (s : ByteArray) (hs : s.size ≤ 208) : (m.sendB k s).small R (S + 208) := by
  refine ⟨h.req, fun j hj => ?_, h.body⟩
  by_cases e : j = k
  · subst e
    simp only [PM.sendB, upd_same, List.length_append, nums_length]
    have := h.sent j hj
    omega
  · simp only [PM.sendB, upd_other _ _ e]
    have := h.sent j hj
    omega

theorem PM.small.endKey (h : m.small R S) (k : Nat) (i st : Int) : (m.endKey k i st).small R (S + 208) :=
  (h.sendB k _ (encB_size _ _ _)).drop _ _

theorem PM.small.begin_ (h : m.small R S) (k : Nat) (i : Int) (role : ByteArray) : (m.begin_ k i role).small (R + 1) (S + 208) := by
  unfold PM.begin_
  cases (role.toList == [1])
  · exact (h.endKey k i 3).mono (by omega) (by omega)
  · cases decide ((m.keysOf k).length ≥ 4)
    · refine ⟨?_, fun j hj => Nat.le_trans (h.sent j hj) (by omega), ?_⟩
      · simp only [cond_false, cond_true, List.length_append, List.length_singleton]; have := h.req; omega
      · intro r hr
        simp only [cond_false, cond_true, List.mem_append, List.mem_singleton] at hr
        rcases hr with hr | rfl
        · exact h.body r hr
        · simp [newReq, ByteArray.size]
    · exact (h.endKey k i 2).mono (by omega) (by omega)

theorem PM.small.enqueue (h : m.small R S) (k : Nat) (i : Int) (body : ByteArray) (hb : body.size ≤ 1000) : (m.enqueue k i body).small (R + 1) (S + 208) := by
  unfold PM.enqueue
  cases m.room
  · exact (h.endKey k i 2).mono (by omega) (by omega)
  · refine ⟨?_, fun j hj => Nat.le_trans (h.sent j hj) (by omega), ?_⟩
    · have := withoutL_len m.req k i
      simp only [cond_true, List.length_append, List.length_singleton]; have := h.req; omega
    · intro r hr
      simp only [cond_true, List.mem_append, List.mem_singleton] at hr
      rcases hr with hr | rfl
      · exact h.body r (List.mem_filter.1 hr).1
      · exact hb

theorem PM.small.in_ (h : m.small R S) (k : Nat) (i : Int) (c : ByteArray) : (m.in_ k i c).small (R + 1) (S + 208) := by
  unfold PM.in_
  cases hf : m.find k i with
  | none => exact h.mono (by omega) (by omega)
  | some a =>
    obtain ⟨hal, -, -⟩ := m.find_some k i a hf
    have hgd : m.req.getD a noReq = m.req[a] := by simp [List.getD, List.getElem?_eq_getElem hal]
    simp only [hgd]
    unfold PM.inAt
    cases (m.req[a].stage == 0)
    · exact h.mono (by omega) (by omega)
    · cases (c.toList == [])
      · cases h5 : decide (500 < (m.req[a].body ++ c).size)
        · simp only [cond_true, cond_false]
          have h5' := of_decide_eq_false h5
          refine ⟨by simp only [List.length_set]; have := h.req; omega, fun j hj => Nat.le_trans (h.sent j hj) (by omega), ?_⟩
          intro r hr
          rcases List.mem_or_eq_of_mem_set hr with hr | rfl
          · exact h.body r hr
          · simp only; omega
        · exact (h.endKey k i 4).mono (by omega) (by omega)
      · exact h.enqueue k i _ (h.body _ (List.getElem_mem hal))

theorem PM.small.abort (h : m.small R S) (k : Nat) (i : Int) : (m.abort k i).small (R + 1) (S + 208) := by
  unfold PM.abort
  cases m.find k i with
  | none => exact h.mono (by omega) (by omega)
  | some a =>
    have hk := killAt_same m (m.slotOf k i)
    exact ((h.of_eq hk.2 hk.1).endKey k i 5).mono (by omega) (by omega)

theorem PM.small.take (h : m.small R S) (k : Nat) (r : Rec) : (m.take k r).small (R + 1) (S + 208) := by
  unfold PM.take
  split
  · exact h.begin_ k _ _
  · split
    · exact h.in_ k _ _
    · split
      · exact h.abort k _
      · exact h.mono (by omega) (by omega)

theorem startTo_same (m : PM) (u : Int) (k : Nat) : (startTo m u k).1.req = m.req ∧ (startTo m u k).1.con = m.con := by
  induction k with
  | zero => exact ⟨rfl, rfl⟩
  | succ k ih =>
    simp only [startTo]
    cases (decide ((startTo m u k).2 < m.set.ch) && ((startTo m u k).1.slot k).st == 0)
    · exact ih
    · exact ih

theorem PM.small.leaseAt (h : m.small R S) (k : Nat) : (m.leaseAt k).small R S := by
  unfold PM.leaseAt
  cases m.fw with
  | none => exact h
  | some a =>
    simp only
    cases ((m.slot k).st == 2)
    · exact h
    · simp only [cond_true]
      refine ⟨by simp only [PM.lease, List.length_set]; exact h.req, h.sent, ?_⟩
      intro r hr
      rcases List.mem_or_eq_of_mem_set hr with hr | rfl
      · exact h.body r hr
      · simp [ByteArray.size]

theorem PM.small.leaseTo (h : m.small R S) (k : Nat) : (m.leaseTo k).small R S := by
  induction k with
  | zero => exact h
  | succ k ih => exact ih.leaseAt k

theorem PM.small.settle (h : m.small R S) : m.settle.small R S := by
  unfold PM.settle PM.leaseWaiting
  refine PM.small.leaseTo ?_ 6
  cases m.set.dyn
  · exact h.of_eq (startTo_same _ _ _).1 (startTo_same _ _ _).2
  · exact h
end

section
variable {o : Nat → Tag} {q : Nat} {w : World} {b : Nat} {m : PM} {sv : Nat → Value} {rv : Value}

set_option maxRecDepth 100000 in
set_option maxHeartbeats 2000000 in
theorem take_any (h : FMem o q w b m sv rv) (hq : q ≠ 0) (k : Nat) (hk : k < 4) (r : Rec) (hc : r.2.2.size ≤ 1000000000) {R S : Nat} (hsm : m.small R S) (hR : R ≤ 100000000000) (hS : S ≤ 1000000000000) :
    Calls Tryz.prog 105 #[.pointer (some ⟨b, 0, none⟩), .agg #[.int .i64 k, .int .i64 r.2.1], .agg #[.int .i64 r.1, .int .i64 r.2.1, .string r.2.2]] w fun e w' => e = .returned (.tuple #[]) ∧ ∃ o' sv' rv', FMem o' q w' b (m.take k r) sv' rv' ∧ Fr q o w o' w' := by
  obtain ⟨kd, i, c⟩ := r
  simp only at hc
  have hs : (m.con k).sent.length ≤ 1000000000000 := Nat.le_trans (hsm.sent k hk) hS
  have hmax : m.req.length ≤ 100000000000 := Nat.le_trans hsm.req hR
  have hbd : ∀ r ∈ m.req, r.body.size ≤ 1000000000 := fun r hr => Nat.le_trans (hsm.body r hr) (by omega)
  have hb1 : Below w.heap.size w ((w.alloc (.cells #[.int .i64 k, .int .i64 i] 89)).alloc (.cells #[.int .i64 kd, .int .i64 i, .string c] 102)) := ((Below.refl _ _).alloc (Nat.le_refl _) _).alloc (by simp) _
  have hA := h.below hb1
  have frA := Fr.of_below (q := q) h.clean hb1
  unfold PM.take
  simp only
  by_cases h1 : kd = 1
  · subst h1
    simp only [if_true]
    go_enter Tryz.func105, Tryz.ntmps105
    go_wp2_with fail
    refine (begin_any hA hq k hk i c hs hmax).mono ?_
    rintro e w2 ⟨rfl, o2, sv2, rv2, hm2, fr2⟩
    go_wp2
    exact bodyPost_end (v := .tuple #[]) (by simp [results, Tryz.results105, go_sem]) rfl ⟨rfl, o2, sv2, rv2, hm2, frA.trans fr2⟩
  · by_cases h5 : kd = 5
    · subst h5
      rw [if_neg h1, if_pos rfl]
      go_enter Tryz.func105, Tryz.ntmps105
      go_wp2_with fail
      refine (in_any hA hq k hk i c hs hmax hc hbd).mono ?_
      rintro e w2 ⟨rfl, o2, sv2, rv2, hm2, fr2⟩
      go_wp2
      exact bodyPost_end (v := .tuple #[]) (by simp [results, Tryz.results105, go_sem]) rfl ⟨rfl, o2, sv2, rv2, hm2, frA.trans fr2⟩
    · by_cases h2 : kd = 2
      · subst h2
        rw [if_neg h1, if_neg h5, if_pos rfl]
        go_enter Tryz.func105, Tryz.ntmps105
        go_wp2_with fail
        refine (abort_any hA hq k hk i hs hmax).mono ?_
        rintro e w2 ⟨rfl, o2, sv2, rv2, hm2, fr2⟩
        go_wp2
        exact bodyPost_end (v := .tuple #[]) (by simp [results, Tryz.results105, go_sem]) rfl ⟨rfl, o2, sv2, rv2, hm2, frA.trans fr2⟩
      · rw [if_neg h1, if_neg h5, if_neg h2]
        go_enter Tryz.func105, Tryz.ntmps105
        go_wp2
        exact bodyPost_end (v := .tuple #[]) (by simp [results, Tryz.results105, go_sem]) rfl ⟨rfl, o, sv, rv, hA, frA⟩
end
end Go.Proofs.YtlafkpaljibonaaGreat

namespace Go.Proofs.YtlafkpaljibonaaGreat
open Go.RowKit

set_option maxRecDepth 100000 in
set_option maxHeartbeats 1000000 in
theorem mayCome_any (mk k i n p z : Int) (w : World) :
    Calls Tryz.prog 116 #[.agg #[.int .i64 mk, .int .i64 k, .int .i64 i, .int .i64 n, .int .i64 p, .int .i64 z]] w fun r w' => r = .returned (.bool (!wrongB k n)) ∧ Below w.heap.size w w' := by
  unfold wrongB
  by_cases h1 : k = 1
  · subst h1
    go_enter Tryz.func116, Tryz.ntmps116
    go_wp2
    go_ret
    exact ⟨by simp [bne], (Below.refl _ _).alloc (Nat.le_refl _) _⟩
  · by_cases h2 : k = 2
    · subst h2
      go_enter Tryz.func116, Tryz.ntmps116
      go_wp2
      go_ret
      exact ⟨by simp [bne], (Below.refl _ _).alloc (Nat.le_refl _) _⟩
    · rw [if_neg h1, if_neg h2]
      by_cases h5 : k = 5
      · subst h5
        go_enter Tryz.func116, Tryz.ntmps116
        go_wp2
        go_ret
        exact ⟨by simp, (Below.refl _ _).alloc (Nat.le_refl _) _⟩
      · go_enter Tryz.func116, Tryz.ntmps116
        go_wp2
        go_ret
        exact ⟨by simp [h5], (Below.refl _ _).alloc (Nat.le_refl _) _⟩

/-- 'FirstRequest' in one row. -/
def reqV (t : ByteArray) : Value :=
  if rcode true t = 2 then .tuple #[.agg #[.int .i64 (recT t).1, .int .i64 (recT t).2.1, .string (recT t).2.2], .int .i64 (sizeT t), .int .i64 0]
  else if rcode true t = 1 then .tuple #[nilRec, .int .i64 0, .int .i64 7] else .tuple #[nilRec, .int .i64 0, .int .i64 0]

theorem reqV_first {t : ByteArray} (h : wrongT t = false ∨ (t.size : Int) < 8) : reqV t = firstV t := by
  have : rcode true t = code t := by
    unfold rcode code stopT
    rcases h with h | h
    · simp [h]
    · simp [h]
  simp only [reqV, firstV, this]

theorem firstV_agg (t : ByteArray) : ∃ k i c n e, firstV t = .tuple #[.agg #[.int .i64 k, .int .i64 i, .string c], .int .i64 n, .int .i64 e] := by
  unfold firstV nilRec
  split
  · exact ⟨_, _, _, _, _, rfl⟩
  · split
    · exact ⟨_, _, _, _, _, rfl⟩
    · exact ⟨_, _, _, _, _, rfl⟩

set_option maxRecDepth 100000 in
set_option maxHeartbeats 2000000 in
theorem firstRequest_any (t : ByteArray) (w : World) (hmax : (t.size : Int) ≤ 1000000000000) :
    Calls Tryz.prog 103 #[.string t] w fun r w' => r = .returned (reqV t) ∧ Below w.heap.size w w' := by
  by_cases hs : (t.size : Int) < 8
  · rw [reqV_first (.inr hs)]
    have kf : Hid (∀ w, Calls Tryz.prog 117 #[.string t] w fun r w' => r = .returned (firstV t) ∧ Below w.heap.size w w') := fun w => first_any t w hmax
    obtain ⟨k, i, c, n, e, hV⟩ := firstV_agg t
    rw [hV] at kf ⊢
    go_enter Tryz.func103, Tryz.ntmps103
    go_wp2_with fail
    refine (readHead_no t _ hs).mono ?_
    rintro e1 w1 ⟨rfl, hb1⟩
    have j0 := (Blk.made w 102 [.int .i64 0, .int .i64 0, .string ⟨#[]⟩]).below hb1
    have hbw : Below w.heap.size w w1 := ((Below.refl _ _).alloc (Nat.le_refl _) _).trans (hb1.mono (by simp))
    clear hb1
    go_wp2_with fail
    refine (kf.out _).mono ?_
    rintro e2 w2 ⟨rfl, hb2⟩
    have hb2' : Below w1.heap.size w1 w2 := ((Below.refl _ _).alloc (Nat.le_refl _) _).trans (hb2.mono (by simp))
    have j2 := j0.below hb2'
    have hbw2 := hbw.trans (hb2'.mono hbw.size)
    clear j0 hb2 hb2' hbw
    have a0 := j2.cell (k := 0) (u := .int .i64 0) rfl
    have a1 := j2.cell (k := 1) (u := .int .i64 0) rfl
    have a2 := j2.cell (k := 2) (u := .string ⟨#[]⟩) rfl
    have fz := j2.frozen
    go_wp2
    refine bodyPost_ret (v := .tuple #[.agg #[.int .i64 k, .int .i64 i, .string c], .int .i64 n, .int .i64 e]) (by simp [results, Tryz.results103, go_sem, a0, a1, a2]) rfl ⟨rfl, ?_⟩
    repeat (first | refine Below.setCell ?_ (by simp) _ | exact hbw2)
  · have hs8 : 8 ≤ (t.size : Int) := by omega
    have km : Hid (∀ w, Calls Tryz.prog 116 #[.agg #[.int .i64 (byt t 0), .int .i64 (hKind t), .int .i64 (hId t), .int .i64 (hLen t), .int .i64 (hPad t), .int .i64 (byt t 7)]] w fun r w' => r = .returned (.bool (!wrongT t)) ∧ Below w.heap.size w w') := fun w => mayCome_any _ _ _ _ _ _ w
    have kh : Hid (∀ w, Calls Tryz.prog 115 #[.string t] w fun r w' => r = .returned (.tuple #[.agg #[.int .i64 (byt t 0), .int .i64 (hKind t), .int .i64 (hId t), .int .i64 (hLen t), .int .i64 (hPad t), .int .i64 (byt t 7)], .bool true]) ∧ Below w.heap.size w w') := fun w => readHead_yes' t w hs8 hmax
    generalize byt t 0 = h0 at *
    generalize hKind t = h1 at *
    generalize hId t = h2 at *
    generalize hLen t = h3 at *
    generalize hPad t = h4 at *
    generalize byt t 7 = h5 at *
    cases hw : wrongT t
    · rw [reqV_first (.inl hw)]
      rw [hw] at km
      have kf : Hid (∀ w, Calls Tryz.prog 117 #[.string t] w fun r w' => r = .returned (firstV t) ∧ Below w.heap.size w w') := fun w => first_any t w hmax
      obtain ⟨k, i, c, n, e, hV⟩ := firstV_agg t
      rw [hV] at kf ⊢
      clear hw
      go_enter Tryz.func103, Tryz.ntmps103
      go_wp2_with fail
      refine (kh.out _).mono ?_
      rintro e1 w1 ⟨rfl, hb1⟩
      have j0 := (Blk.made w 102 [.int .i64 0, .int .i64 0, .string ⟨#[]⟩]).below hb1
      have hbw : Below w.heap.size w w1 := ((Below.refl _ _).alloc (Nat.le_refl _) _).trans (hb1.mono (by simp))
      clear hb1
      go_wp2_with fail
      refine (km.out _).mono ?_
      rintro e2 w2 ⟨rfl, hb2⟩
      have hb2' : Below w1.heap.size w1 w2 := ((Below.refl _ _).alloc (Nat.le_refl _) _).trans (hb2.mono (by simp))
      have j2 := j0.below hb2'
      have hbw2 := hbw.trans (hb2'.mono hbw.size)
      clear j0 hb2 hb2' hbw
      go_wp2_with fail
      refine (kf.out _).mono ?_
      rintro e3 w3 ⟨rfl, hb3⟩
      have j3 := j2.below hb3
      have hbw3 := hbw2.trans (hb3.mono hbw2.size)
      clear j2 hb3 hbw2
      have a0 := j3.cell (k := 0) (u := .int .i64 0) rfl
      have a1 := j3.cell (k := 1) (u := .int .i64 0) rfl
      have a2 := j3.cell (k := 2) (u := .string ⟨#[]⟩) rfl
      have fz := j3.frozen
      go_wp2
      refine bodyPost_ret (v := .tuple #[.agg #[.int .i64 k, .int .i64 i, .string c], .int .i64 n, .int .i64 e]) (by simp [results, Tryz.results103, go_sem, a0, a1, a2]) rfl ⟨rfl, ?_⟩
      repeat (first | refine Below.setCell ?_ (by simp) _ | exact hbw3)
    · have hV : reqV t = .tuple #[nilRec, .int .i64 0, .int .i64 7] := by
        have : rcode true t = 1 := by simp [rcode, stopT, hw, hs]
        simp [reqV, this]
      rw [hV]
      rw [hw] at km
      unfold nilRec at *
      clear hw hV
      go_enter Tryz.func103, Tryz.ntmps103
      go_wp2_with fail
      refine (kh.out _).mono ?_
      rintro e1 w1 ⟨rfl, hb1⟩
      have j0 := (Blk.made w 102 [.int .i64 0, .int .i64 0, .string ⟨#[]⟩]).below hb1
      have hbw : Below w.heap.size w w1 := ((Below.refl _ _).alloc (Nat.le_refl _) _).trans (hb1.mono (by simp))
      clear hb1
      go_wp2_with fail
      refine (km.out _).mono ?_
      rintro e2 w2 ⟨rfl, hb2⟩
      have hb2' : Below w1.heap.size w1 w2 := ((Below.refl _ _).alloc (Nat.le_refl _) _).trans (hb2.mono (by simp))
      have j2 := j0.below hb2'
      have hbw2 := hbw.trans (hb2'.mono hbw.size)
      clear j0 hb2 hb2' hbw
      have a0 := j2.cell (k := 0) (u := .int .i64 0) rfl
      have a1 := j2.cell (k := 1) (u := .int .i64 0) rfl
      have a2 := j2.cell (k := 2) (u := .string ⟨#[]⟩) rfl
      have fz := j2.frozen
      go_wp2
      refine bodyPost_ret (v := .tuple #[.agg #[.int .i64 0, .int .i64 0, .string ⟨#[]⟩], .int .i64 0, .int .i64 7]) (by simp [results, Tryz.results103, go_sem, a0, a1, a2]) rfl ⟨rfl, ?_⟩
      repeat (first | refine Below.setCell ?_ (by simp) _ | exact hbw2)

end Go.Proofs.YtlafkpaljibonaaGreat

namespace Go.Proofs.YtlafkpaljibonaaGreat
open Go.RowKit

def PM.setRest (m : PM) (k : Nat) (s : ByteArray) : PM := { m with con := upd m.con k { m.con k with rest := s } }
def PM.takeAll (k : Nat) (all : ByteArray) : Nat → PM → Nat → PM
  | 0, m, t => m.setRest k (left all t)
  | f + 1, m, t =>
    if rcode true (left all t) = 0 then m.setRest k (left all t)
    else if rcode true (left all t) = 1 then m.close k
    else cond (m.again k (recT (left all t)).2.1 (recT (left all t)).1) (m.close k) (PM.takeAll k all f ((m.take k (recT (left all t))).settle) (t + sizeT (left all t)))

theorem rcode_cases (c : Bool) (t : ByteArray) : rcode c t = 0 ∨ rcode c t = 1 ∨ rcode c t = 2 := by
  unfold rcode
  split
  · exact .inl rfl
  · split
    · exact .inr (.inl rfl)
    · split
      · exact .inl rfl
      · exact .inr (.inr rfl)

theorem rec_size {t : ByteArray} : (recT t).2.2.size ≤ t.size := by
  simp only [recT, ByteArray.size_extract]; omega

theorem two_blks (w : World) (A B : List Value) (T1 T2 : TypeId) :
    let W := (w.alloc (.cells A.toArray T1)).alloc (.cells B.toArray T2)
    Blk W w.heap.size T1 A ∧ Blk W (w.heap.size + 1) T2 B ∧ Below w.heap.size w W := by
  intro W
  have e1 : (w.alloc (.cells A.toArray T1)).heap.size = w.heap.size + 1 := by simp
  have b1 := Blk.made w T1 A
  have b2 := Blk.made (w.alloc (.cells A.toArray T1)) T2 B
  rw [e1] at b2
  have s1 := fun (x : World) (ob : Obj) => (Below.refl x.heap.size x).alloc (Nat.le_refl _) ob
  exact ⟨b1.below (s1 _ _), b2, ((Below.refl _ _).alloc (Nat.le_refl _) _).alloc (by simp) _⟩

section
variable {o : Nat → Tag} {q : Nat} {w : World} {b : Nat} {m : PM} {sv : Nat → Value} {rv : Value}

theorem fcells_rest (m : PM) (sv : Nat → Value) (rv : Value) (k : Nat) (hk : k < 4) (s : ByteArray) :
    (fcells m sv rv).set (8 + k * 3 + 1) (.string s) = fcells (m.setRest k s) sv rv := by
  rcases k with _ | _ | _ | _ | k <;> first | rfl | omega

theorem FMem.putRest (h : FMem o q w b m sv rv) {k : Nat} (hk : k < 4) (s : ByteArray) :
    FMem o q (w.setCell ⟨b, 8 + k * 3 + 1, none⟩ (.string s)) b (m.setRest k s) sv rv ∧ Fr q o w o (w.setCell ⟨b, 8 + k * 3 + 1, none⟩ (.string s)) := by
  have hoth : ∀ x, x ≠ b → (w.setCell ⟨b, 8 + k * 3 + 1, none⟩ (.string s)).heap[x]? = w.heap[x]? := fun x hx => Below.heap_setCell _ _ _ x hx
  have hbk := h.blk.set (8 + k * 3 + 1) (.string s)
  rw [fcells_rest m sv rv k hk s] at hbk
  have hsent : ∀ j, j < 4 → ((m.setRest k s).con j).sent = (m.con j).sent := by
    intro j _
    simp only [PM.setRest, upd]
    split
    · rename_i e; rw [e]
    · rfl
  have hm1 := h.put hbk (by simp [World.setCell]) hoth hsent rfl
  exact ⟨hm1, h.fr_put hm1 (by simp [World.setCell]) (by simp [World.setCell]) (by simp [World.setCell]) (by simp [World.setCell]) hoth⟩

set_option maxRecDepth 100000 in
set_option maxHeartbeats 4000000 in
theorem takeAll_any (h : FMem o q w b m sv rv) (hq : q ≠ 0) (k : Nat) (hk : k < 4) (all : ByteArray) (hall : all.size ≤ 1000000000) {R S : Nat} (hsm : m.small R S) (hR : R ≤ 10000000000) (hS : S ≤ 10000000000) :
    Calls Tryz.prog 82 #[.pointer (some ⟨b, 0, none⟩), .int .i64 k, .string all] w fun r w' => r = .returned (.tuple #[]) ∧ ∃ o' sv' rv', FMem o' q w' b (PM.takeAll k all (all.size + 1) m 0) sv' rv' ∧ Fr q o w o' w' := by
  have hkI : (k : Int) < 4 := by omega
  go_enter Tryz.func82, Tryz.ntmps82
  go_wp2
  go_loopw [6] (fun i w' => ∃ (M : PM) (n f : Nat) (o' : Nat → Tag) (sv' : Nat → Value) (rv' : Value), i = .int .i64 n ∧ n ≤ all.size ∧ all.size - n < f ∧ FMem o' q w' b M sv' rv' ∧ Fr q o w o' w' ∧ PM.takeAll k all (all.size + 1) m 0 = PM.takeAll k all f M n ∧ M.small (R + n) (S + 208 * n)) (fun i _ => all.size - (intOf i).toNat)
  case atStart => exact ⟨m, 0, all.size + 1, o, sv, rv, rfl, Nat.zero_le _, by omega, h, Fr.refl h.clean, rfl, hsm.mono (by omega) (by omega)⟩
  case round =>
    obtain ⟨M, n, f, o1, sv1, rv1, rfl, hn, hf, hm, hfr, heq, hsmall⟩ := hrel
    clear h hsm
    have HEQ : Hid _ := heq
    clear heq
    obtain ⟨f', rfl⟩ : ∃ f', f = f' + 1 := ⟨f - 1, by omega⟩
    have HST : Hid (PM.takeAll k all (f' + 1) M n = if rcode true (left all n) = 0 then M.setRest k (left all n) else if rcode true (left all n) = 1 then M.close k else cond (M.again k (recT (left all n)).2.1 (recT (left all n)).1) (M.close k) (PM.takeAll k all f' ((M.take k (recT (left all n))).settle) (n + sizeT (left all n)))) := rfl
    by_cases hlt : n < all.size
    · have hls := left_size all n
      rcases rcode_cases true (left all n) with hc | hc | hc
      · have hv : reqV (all.extract n all.size) = .tuple #[nilRec, .int .i64 0, .int .i64 0] := by simp [reqV, show rcode true (all.extract n all.size) = 0 from hc]
        have HV : Hid (PM.takeAll k all (all.size + 1) m 0 = M.setRest k (left all n)) := by
          show _ = _
          rw [HEQ.out, HST.out, if_pos hc]
        clear hc HST HEQ hls
        unfold nilRec at hv
        go_wp2_with fail
        refine (firstRequest_any (all.extract n all.size) _ (by rw [ByteArray.size_extract]; omega)).mono ?_
        rintro e w1 ⟨rfl, hb⟩
        rw [hv]
        clear hv
        have hm1 := hm.below hb
        have fr1 := hfr.below hb
        go_wp2_with fail
        have hbX : Below w1.heap.size w1 (w1.alloc (.cells #[.int .i64 0, .int .i64 0, .string ⟨#[]⟩] 102)) := (Below.refl _ _).alloc (Nat.le_refl _) _
        have hmX := hm1.below hbX
        have frX := fr1.below hbX
        generalize w1.alloc (.cells #[.int .i64 0, .int .i64 0, .string ⟨#[]⟩] 102) = wX at *
        have kj : Hid (∀ w, Calls Tryz.prog 106 #[.string ⟨#[]⟩, .string (all.extract n all.size)] w fun r w' => r = .returned (.string (left all n)) ∧ Below w.heap.size w w') := fun w => by
          have := joined_any ⟨#[]⟩ (all.extract n all.size) w (by simp [ByteArray.size]) (by rw [ByteArray.size_extract]; omega)
          rw [nil_ba] at this
          exact this
        have hmd := hmX.below (Below.refl _ _).drew
        have hnI : (n : Int) ≤ all.size := by omega
        go_region_held3 (fun w' => True) (trivial) (first | (go_at_call 106; refine (kj.out _).mono ?_; rintro e w2 ⟨rfl, hb2⟩; have hm2 := hmd.below hb2; have cR := hm2.rest hk; have fz := hm2.frozen))
        go_wp2
        refine bodyPost_end (v := .tuple #[]) (by simp [results, Tryz.results82, go_sem]) rfl ⟨rfl, ?_⟩
        rw [HV.out]
        have hp := hm2.putRest hk (left all n)
        exact ⟨o1, sv1, rv1, hp.1, ((frX.below (Below.refl _ _).drew).below hb2).trans hp.2⟩
      · have hv : reqV (all.extract n all.size) = .tuple #[nilRec, .int .i64 0, .int .i64 7] := by simp [reqV, show rcode true (all.extract n all.size) = 1 from hc]
        have HV : Hid (PM.takeAll k all (all.size + 1) m 0 = M.close k) := by
          show _ = _
          rw [HEQ.out, HST.out, if_neg (by rw [hc]; omega), if_pos hc]
        clear hc HST HEQ hls
        unfold nilRec at hv
        go_wp2_with fail
        refine (firstRequest_any (all.extract n all.size) _ (by rw [ByteArray.size_extract]; omega)).mono ?_
        rintro e w1 ⟨rfl, hb⟩
        rw [hv]
        clear hv
        have hm1 := hm.below hb
        have fr1 := hfr.below hb
        go_wp2_with fail
        have hbB : Below w1.heap.size w1 ((w1.alloc (.cells #[.int .i64 0, .int .i64 0, .string ⟨#[]⟩] 102)).alloc (.cells #[.int .i64 k, .int .i64 0] 89)) := ((Below.refl _ _).alloc (Nat.le_refl _) _).alloc (by simp) _
        refine (close_any (hm1.below hbB) hq k hk (by have := hsmall.req; omega)).mono ?_
        rintro e w2 ⟨rfl, o2, rv2, hm2, fr2⟩
        go_wp2
        refine bodyPost_ret (v := .tuple #[]) (by simp [results, Tryz.results82, go_sem]) rfl ⟨rfl, ?_⟩
        rw [HV.out]
        exact ⟨o2, sv1, rv2, hm2, (fr1.below hbB).trans fr2⟩
      · obtain ⟨q1, q2, -, -, -⟩ := rcode_two hc
        rw [hls] at q2
        have hrs := rec_size (t := left all n)
        rw [hls] at hrs
        have hv : reqV (all.extract n all.size) = .tuple #[.agg #[.int .i64 (recT (left all n)).1, .int .i64 (recT (left all n)).2.1, .string (recT (left all n)).2.2], .int .i64 (sizeT (left all n)), .int .i64 0] := by simp [reqV, show rcode true (all.extract n all.size) = 2 from hc, left]
        have HV : Hid (PM.takeAll k all (all.size + 1) m 0 = cond (M.again k (recT (left all n)).2.1 (recT (left all n)).1) (M.close k) (PM.takeAll k all f' ((M.take k (recT (left all n))).settle) (n + sizeT (left all n)))) := by
          show _ = _
          rw [HEQ.out, HST.out, if_neg (by rw [hc]; omega), if_neg (by rw [hc]; omega)]
        clear hc HST HEQ hls
        generalize recT (left all n) = r at *
        generalize sizeT (left all n) = z at *
        have hne : ((z : Int) == 0) = false := by simp; omega
        have ka : Hid (∀ w', FMem o1 q w' b M sv1 rv1 → Calls Tryz.prog 104 #[.pointer (some ⟨b, 0, none⟩), .agg #[.int .i64 k, .int .i64 r.2.1], .int .i64 r.1] w' fun e w'' => e = .returned (.bool (M.again k r.2.1 r.1)) ∧ Below w'.heap.size w' w'') := fun w' h' => beginsAgain_any h' k r.2.1 r.1
        have hreq := hsmall.req
        cases hag : M.again k r.2.1 r.1
        · rw [hag] at ka HV
          simp only [cond_false] at HV
          go_wp2_with fail
          refine (firstRequest_any (all.extract n all.size) _ (by rw [ByteArray.size_extract]; omega)).mono ?_
          rintro e w1 ⟨rfl, hb⟩
          rw [hv]
          clear hv
          have hm1 := hm.below hb
          have fr1 := hfr.below hb
          obtain ⟨k0, k1, kbb⟩ := two_blks w1 [.int .i64 r.1, .int .i64 r.2.1, .string r.2.2] [.int .i64 k, .int .i64 r.2.1] 102 89
          go_wp2_with fail
          refine (ka.out _ (hm1.below kbb)).mono ?_
          rintro e w2 ⟨rfl, hb2⟩
          have j0 := k0.below hb2
          have j1 := k1.below hb2
          have hm2 := (hm1.below kbb).below hb2
          have fr2 := (fr1.below kbb).below hb2
          have a0 := j0.cell (k := 0) (u := .int .i64 r.1) rfl
          have a1 := j0.cell (k := 1) (u := .int .i64 r.2.1) rfl
          have a2 := j0.cell (k := 2) (u := .string r.2.2) rfl
          have d0 := j1.cell (k := 0) (u := .int .i64 k) rfl
          have d1 := j1.cell (k := 1) (u := .int .i64 r.2.1) rfl
          clear k0 k1 kbb hb hb2 ka
          go_wp2_with fail
          refine (take_any hm2 hq k hk r (by omega) hsmall (by omega) (by omega)).mono ?_
          rintro e w3 ⟨rfl, o3, sv3, rv3, hm3, fr3⟩
          clear a0 a1 a2 d0 d1
          go_wp2_with fail
          refine (settle_any hm3).mono ?_
          rintro e w4 ⟨rfl, hm4, fr4⟩
          go_wp2
          refine ⟨⟨(M.take k r).settle, n + z, f', o3, sv3, rv3, by go_num, by omega, by omega, hm4, (fr2.trans fr3).trans fr4, HV.out, ((hsmall.take k r).settle).mono (by omega) (by omega)⟩, by simp [intOf]; omega⟩
        · rw [hag] at ka HV
          simp only [cond_true] at HV
          go_wp2_with fail
          refine (firstRequest_any (all.extract n all.size) _ (by rw [ByteArray.size_extract]; omega)).mono ?_
          rintro e w1 ⟨rfl, hb⟩
          rw [hv]
          clear hv
          have hm1 := hm.below hb
          have fr1 := hfr.below hb
          obtain ⟨k0, k1, kbb⟩ := two_blks w1 [.int .i64 r.1, .int .i64 r.2.1, .string r.2.2] [.int .i64 k, .int .i64 r.2.1] 102 89
          go_wp2_with fail
          refine (ka.out _ (hm1.below kbb)).mono ?_
          rintro e w2 ⟨rfl, hb2⟩
          have hm2 := (hm1.below kbb).below hb2
          have fr2 := (fr1.below kbb).below hb2
          clear k0 k1 kbb hb hb2 ka
          go_wp2_with fail
          refine (close_any hm2 hq k hk (by omega)).mono ?_
          rintro e w3 ⟨rfl, o3, rv3, hm3, fr3⟩
          go_wp2
          refine bodyPost_ret (v := .tuple #[]) (by simp [results, Tryz.results82, go_sem]) rfl ⟨rfl, ?_⟩
          rw [HV.out]
          exact ⟨o3, sv1, rv3, hm3, fr2.trans fr3⟩
    · have hne : n = all.size := by omega
      have HV : Hid (PM.takeAll k all (all.size + 1) m 0 = M.setRest k (left all n)) := by
        show _ = _
        rw [HEQ.out, HST.out, if_pos]
        unfold rcode
        rw [if_pos]
        rw [left_size]; omega
      clear HST HEQ hne
      have hm1 := hm
      have fr1 := hfr
      go_wp2_with fail
      have hmX := hm1
      have frX := fr1
      have kj : Hid (∀ w, Calls Tryz.prog 106 #[.string ⟨#[]⟩, .string (all.extract n all.size)] w fun r w' => r = .returned (.string (left all n)) ∧ Below w.heap.size w w') := fun w => by
        have := joined_any ⟨#[]⟩ (all.extract n all.size) w (by simp [ByteArray.size]) (by rw [ByteArray.size_extract]; omega)
        rw [nil_ba] at this
        exact this
      have hmd := hmX.below (Below.refl _ _).drew
      have hnI : (n : Int) ≤ all.size := by omega
      go_region_held3 (fun w' => True) (trivial) (first | (go_at_call 106; refine (kj.out _).mono ?_; rintro e w2 ⟨rfl, hb2⟩; have hm2 := hmd.below hb2; have cR := hm2.rest hk; have fz := hm2.frozen))
      go_wp2
      refine bodyPost_end (v := .tuple #[]) (by simp [results, Tryz.results82, go_sem]) rfl ⟨rfl, ?_⟩
      rw [HV.out]
      have hp := hm2.putRest hk (left all n)
      exact ⟨o1, sv1, rv1, hp.1, ((frX.below (Below.refl _ _).drew).below hb2).trans hp.2⟩

end
end Go.Proofs.YtlafkpaljibonaaGreat

namespace Go.Proofs.YtlafkpaljibonaaGreat
open Go.RowKit

def PM.feed (m : PM) (k : Nat) (s : ByteArray) : PM := PM.takeAll k ((m.con k).rest ++ s) (((m.con k).rest ++ s).size + 1) m 0
def PM.afterFeed (m : PM) (n : Int) (s : ByteArray) : PM := cond (m.chk n == 0) (m.feed n.toNat s) m

section
variable {o : Nat → Tag} {q : Nat} {w : World} {b : Nat} {m : PM} {sv : Nat → Value} {rv : Value}

set_option maxRecDepth 100000 in
set_option maxHeartbeats 2000000 in
theorem feed_any (h : FMem o q w b m sv rv) (hq : q ≠ 0) (n : Int) (s : ByteArray) (hs : s.size ≤ 100000000) (hrest : ∀ k, k < 4 → (m.con k).rest.size ≤ 100000000) {R S : Nat} (hsm : m.small R S) (hR : R ≤ 10000000000) (hS : S ≤ 10000000000) :
    Calls Tryz.prog 47 #[.pointer (some ⟨b, 0, none⟩), .int .i64 n, .string s] w fun r w' => r = .returned (.int .i64 (m.chk n)) ∧ ∃ o' sv' rv', FMem o' q w' b (m.afterFeed n s) sv' rv' ∧ Fr q o w o' w' := by
  have k1 : Hid (∀ w', FMem o q w' b m sv rv → Calls Tryz.prog 78 #[.pointer (some ⟨b, 0, none⟩), .int .i64 n] w' fun r w'' => r = .returned (.int .i64 (m.chk n)) ∧ w'' = w') := fun w' h' => checkOpen_any h' n
  unfold PM.afterFeed
  by_cases he : m.chk n = 0
  · have : ∃ k : Nat, k < 4 ∧ n = k := by
      rcases isC_cases n with h0 | ⟨h0, k, hk, e⟩
      · simp [PM.chk, h0] at he
      · exact ⟨k, hk, e⟩
    rw [he] at k1
    rw [he]
    simp only [beq_self_eq_true, cond_true]
    obtain ⟨k, hk, rfl⟩ := this
    simp only [Int.toNat_natCast]
    clear he
    have c1 := h.rest hk
    have hr := hrest k hk
    unfold PM.feed
    generalize (m.con k).rest = rest at *
    have hcat : ¬ (9223372036854775807 < rest.size + s.size) := by omega
    have hsz : (rest ++ s).size ≤ 1000000000 := by rw [ByteArray.size_append]; omega
    go_enter Tryz.func47, Tryz.ntmps47
    go_wp2_with fail
    refine (k1.out _ h).mono ?_
    rintro e w1 ⟨rfl, rfl⟩
    go_wp2_with fail
    refine (takeAll_any h hq k hk (rest ++ s) hsz hsm hR hS).mono ?_
    rintro e w2 ⟨rfl, o', sv', rv', hm, fr⟩
    go_wp2
    go_ret
    exact ⟨rfl, o', sv', rv', hm, fr⟩
  · have he2 : (m.chk n == 0) = false := by simpa using he
    simp only [he2, cond_false]
    generalize m.chk n = E at *
    go_enter Tryz.func47, Tryz.ntmps47
    go_wp2_with fail
    refine (k1.out _ h).mono ?_
    rintro e w1 ⟨rfl, rfl⟩
    go_wp2
    go_ret
    exact ⟨rfl, o, sv, rv, h, Fr.refl h.clean⟩
end
end Go.Proofs.YtlafkpaljibonaaGreat

namespace Go.Proofs.YtlafkpaljibonaaGreat
open Go.RowKit

/-- A key as both sides know it: connection, Id, what has become of it, its body (of a leased one: nothing). -/
structure KV where
  conn : Int
  id : Int
  is : Int
  body : ByteArray

def KV.key (v : KV) : Int × Int := (v.conn, v.id)
def KV.isK (c i : Int) (v : KV) : Bool := v.conn == c && v.id == i

def Req.kv (r : Req) : KV := ⟨r.conn, r.id, r.stage, r.body⟩
def RKey.kv (r : RKey) : KV := ⟨r.conn, r.id, r.is, cond (r.is == 2) ⟨#[]⟩ r.body⟩
def RKey.on (r : RKey) : Bool := !(r.is == 3)

def PM.view (m : PM) : List KV := m.req.map Req.kv
def viewL (l : List RKey) : List KV := (l.filter RKey.on).map RKey.kv
def RM.view (m : RM) : List KV := viewL m.keys

theorem KV.isK_iff {c i : Int} {v : KV} : v.isK c i = true ↔ v.key = (c, i) := by
  simp [KV.isK, KV.key]

theorem KV.isK_false {c i : Int} {v : KV} : v.isK c i = false ↔ v.key ≠ (c, i) := by
  rw [← Bool.not_eq_true, KV.isK_iff]

section
variable {α β : Type}

/-- Of a list whose images differ: the places of those that are kept. -/
theorem nodup_filter_map {p : α → Bool} {f : α → β} : ∀ {l : List α}, ((l.filter p).map f).Nodup → ∀ {i j : Nat} (hi : i < l.length) (hj : j < l.length), p l[i] = true → p l[j] = true → f l[i] = f l[j] → i = j
  | [], _, i, _, hi, _, _, _, _ => by simp at hi
  | x :: l, h, i, j, hi, hj, pi, pj, e => by
    cases hp : p x
    · rw [List.filter_cons_of_neg (by simp [hp])] at h
      cases i with
      | zero => simp [hp] at pi
      | succ i =>
        cases j with
        | zero => simp [hp] at pj
        | succ j =>
          have := nodup_filter_map h (i := i) (j := j) (by simpa using hi) (by simpa using hj) (by simpa using pi) (by simpa using pj) (by simpa using e)
          omega
    · rw [List.filter_cons_of_pos hp, List.map_cons, List.nodup_cons] at h
      have hmem : ∀ (k : Nat) (hk : k < l.length), p l[k] = true → f l[k] ∈ (l.filter p).map f := fun k hk pk =>
        List.mem_map.2 ⟨l[k], List.mem_filter.2 ⟨List.getElem_mem hk, pk⟩, rfl⟩
      cases i with
      | zero =>
        cases j with
        | zero => rfl
        | succ j =>
          exfalso
          apply h.1
          have := hmem j (by simpa using hj) (by simpa using pj)
          simp only [List.getElem_cons_zero, List.getElem_cons_succ] at e
          rw [e]; exact this
      | succ i =>
        cases j with
        | zero =>
          exfalso
          apply h.1
          have := hmem i (by simpa using hi) (by simpa using pi)
          simp only [List.getElem_cons_zero, List.getElem_cons_succ] at e
          rw [← e]; exact this
        | succ j =>
          have := nodup_filter_map h.2 (i := i) (j := j) (by simpa using hi) (by simpa using hj) (by simpa using pi) (by simpa using pj) (by simpa using e)
          omega
end

/-- The view of a list of keys in which one was changed. -/
theorem viewL_set (l : List RKey) (a : Nat) (ha : a < l.length) (x : RKey) (hon : l[a].on = true) (hc : x.conn = l[a].conn) (hi : x.id = l[a].id) (hn : ((viewL l).map KV.key).Nodup) :
    viewL (l.set a x) = if x.on then (viewL l).map (fun v => if v.isK x.conn x.id then x.kv else v) else (viewL l).filter (fun v => !v.isK x.conn x.id) := by
  have hn' : ((l.filter RKey.on).map (fun r => r.kv.key)).Nodup := by
    have : (fun r : RKey => r.kv.key) = KV.key ∘ RKey.kv := rfl
    rw [this, ← List.map_map]; exact hn
  have hne : ∀ (j : Nat) (hj : j < l.length), j ≠ a → l[j].on = true → l[j].kv.isK x.conn x.id = false := by
    intro j hj hja hjon
    rw [KV.isK_false]
    intro e
    exact hja (nodup_filter_map hn' hj ha hjon hon (by rw [e, hc, hi]; rfl))
  have hself : l[a].kv.isK x.conn x.id = true := by
    rw [KV.isK_iff, hc, hi]; rfl
  clear hn hn'
  induction l generalizing a with
  | nil => simp at ha
  | cons r l ih =>
    cases a with
    | zero =>
      have hrest : ∀ v ∈ viewL l, v.isK x.conn x.id = false := by
        intro v hv
        simp only [viewL, List.mem_map, List.mem_filter] at hv
        obtain ⟨y, ⟨hy, hyon⟩, rfl⟩ := hv
        obtain ⟨j, hj, rfl⟩ := List.getElem_of_mem hy
        have := hne (j + 1) (by simpa using hj) (by omega) (by simpa using hyon)
        simpa using this
      simp only [List.getElem_cons_zero] at hon hself
      have e1 : viewL (r :: l) = r.kv :: viewL l := by simp [viewL, List.filter_cons_of_pos hon]
      rw [e1, List.set_cons_zero]
      cases hx : x.on
      · have e2 : viewL (x :: l) = viewL l := by simp [viewL, hx]
        rw [e2]
        simp only [Bool.false_eq_true, if_false]
        rw [List.filter_cons_of_neg (by simp [hself]), List.filter_eq_self.2 (by intro v hv; simp [hrest v hv])]
      · have e2 : viewL (x :: l) = x.kv :: viewL l := by simp [viewL, List.filter_cons_of_pos hx]
        rw [e2, if_pos rfl, List.map_cons, if_pos hself]
        congr 1
        rw [List.map_congr_left (g := id) (by intro v hv; simp [hrest v hv]), List.map_id]
    | succ a =>
      have ih' := ih a (by simpa using ha) (by simpa using hon) (by simpa using hc) (by simpa using hi)
        (fun j hj hja hjon => by have := hne (j + 1) (by simpa using hj) (by omega) (by simpa using hjon); simpa using this) (by simpa using hself)
      rw [List.set_cons_succ]
      cases hr : r.on
      · have e1 : ∀ l', viewL (r :: l') = viewL l' := fun l' => by simp [viewL, hr]
        rw [e1, e1]; exact ih'
      · have hrk := hne 0 (by simp) (by omega) (by simpa using hr)
        simp only [List.getElem_cons_zero] at hrk
        have e1 : ∀ l', viewL (r :: l') = r.kv :: viewL l' := fun l' => by simp [viewL, List.filter_cons_of_pos hr]
        rw [e1, e1, ih']
        cases x.on
        · simp [hrk]
        · simp [hrk]

theorem viewL_append (a b : List RKey) : viewL (a ++ b) = viewL a ++ viewL b := by simp [viewL]

/-- The same of the program's list. -/
theorem req_set (l : List Req) (a : Nat) (ha : a < l.length) (x : Req) (hc : x.conn = l[a].conn) (hi : x.id = l[a].id) (hn : ((l.map Req.kv).map KV.key).Nodup) :
    (l.set a x).map Req.kv = (l.map Req.kv).map (fun v => if v.isK x.conn x.id then x.kv else v) := by
  have hself : l[a].kv.isK x.conn x.id = true := by rw [KV.isK_iff, hc, hi]; rfl
  have hne : ∀ (j : Nat) (hj : j < l.length), j ≠ a → l[j].kv.isK x.conn x.id = false := by
    intro j hj hja
    rw [KV.isK_false]
    intro e
    have hn' : ((l.filter (fun _ => true)).map (fun r => r.kv.key)).Nodup := by
      have : (fun r : Req => r.kv.key) = KV.key ∘ Req.kv := rfl
      rw [List.filter_eq_self.2 (by simp), this, ← List.map_map]; exact hn
    exact hja (nodup_filter_map hn' hj ha rfl rfl (by rw [e, hc, hi]; rfl))
  clear hn
  induction l generalizing a with
  | nil => simp at ha
  | cons r l ih =>
    cases a with
    | zero =>
      have hrest : ∀ v ∈ l.map Req.kv, v.isK x.conn x.id = false := by
        intro v hv
        simp only [List.mem_map] at hv
        obtain ⟨y, hy, rfl⟩ := hv
        obtain ⟨j, hj, rfl⟩ := List.getElem_of_mem hy
        have := hne (j + 1) (by simpa using hj) (by omega)
        simpa using this
      simp only [List.getElem_cons_zero] at hself
      rw [List.set_cons_zero, List.map_cons, List.map_cons, List.map_cons, if_pos hself]
      congr 1
      rw [List.map_congr_left (g := id) (by intro v hv; simp [hrest v hv]), List.map_id]
    | succ a =>
      have ih' := ih a (by simpa using ha) (by simpa using hc) (by simpa using hi) (by simpa using hself)
        (fun j hj hja => by have := hne (j + 1) (by simpa using hj) (by omega); simpa using this)
      have hrk := hne 0 (by simp) (by omega)
      simp only [List.getElem_cons_zero] at hrk
      rw [List.set_cons_succ, List.map_cons, List.map_cons, List.map_cons, ih', if_neg (by simp [hrk])]

theorem req_without (l : List Req) (c i : Int) : (withoutL l c i).map Req.kv = (l.map Req.kv).filter (fun v => !v.isK c i) := by
  rw [withoutL, List.filter_map]
  rfl

/-- One is put behind the others: the same list, but for the order. -/
theorem perm_last : ∀ (l : List KV) (c i : Int) (x : KV), (l.map KV.key).Nodup → (∃ v ∈ l, v.isK c i = true) → (l.map (fun v => if v.isK c i then x else v)).Perm (l.filter (fun v => !v.isK c i) ++ [x])
  | [], _, _, _, _, h => by obtain ⟨v, hv, -⟩ := h; simp at hv
  | y :: l, c, i, x, hn, h => by
    rw [List.map_cons, List.nodup_cons] at hn
    cases hy : y.isK c i
    · obtain ⟨v, hv, hvk⟩ := h
      have hv' : v ∈ l := by
        rcases List.mem_cons.1 hv with e | e
        · subst e; rw [hy] at hvk; cases hvk
        · exact e
      rw [List.map_cons, if_neg (by simp [hy]), List.filter_cons_of_pos (by simp [hy]), List.cons_append]
      exact (perm_last l c i x hn.2 ⟨v, hv', hvk⟩).cons y
    · have hrest : ∀ v ∈ l, v.isK c i = false := by
        intro v hv
        rw [KV.isK_false]
        intro e
        apply hn.1
        rw [KV.isK_iff] at hy
        rw [hy, ← e]
        exact List.mem_map.2 ⟨v, hv, rfl⟩
      rw [List.map_cons, if_pos hy, List.filter_cons_of_neg (by simp [hy]), List.filter_eq_self.2 (by intro v hv; simp [hrest v hv]), List.map_congr_left (g := id) (by intro v hv; simp [hrest v hv]), List.map_id]
      exact (List.perm_append_comm (l₁ := [x]) (l₂ := l))

end Go.Proofs.YtlafkpaljibonaaGreat

namespace Go.Proofs.YtlafkpaljibonaaGreat
open Go.RowKit

section
variable {o : Nat → Tag} {q : Nat} {w : World} {b : Nat} {m : PM} {sv : Nat → Value} {rv : Value}

set_option maxRecDepth 100000 in
set_option maxHeartbeats 2000000 in
theorem key_any (h : FMem o q w b m sv rv) (k : Nat) (hk : k < 6) :
    Calls Tryz.prog 88 #[.pointer (some ⟨b, 21 + k * 7, none⟩)] w fun r w' => r = .returned (.tuple #[.agg #[.int .i64 (m.slot k).conn, .int .i64 (m.slot k).id], .bool ((m.slot k).conn != -1)]) ∧ Below w.heap.size w w' := by
  have hb0 : Below w.heap.size w (w.alloc (.cells #[.int .i64 0, .int .i64 0] 89)) := (Below.refl _ _).alloc (Nat.le_refl _) _
  have x0 := Blk.made w 89 [.int .i64 0, .int .i64 0]
  have hA := h.below hb0
  obtain ⟨-, -, -, -, c4, c5, -⟩ := hA.slotc hk
  have hbl : b ≠ w.heap.size := Nat.ne_of_lt h.blk.lt
  generalize (m.slot k).conn = cn at *
  generalize (m.slot k).id = id at *
  go_enter Tryz.func88, Tryz.ntmps88
  go_wp2_with fail
  have x1 : Blk (w.alloc (.cells #[.int .i64 0, .int .i64 0] 89)) w.heap.size 89 [.int .i64 0, .int .i64 0] := x0
  generalize w.alloc (.cells #[.int .i64 0, .int .i64 0] 89) = w0 at *
  have y0 := x1.cell (k := 0) (u := .int .i64 0) rfl
  have y1 := x1.cell (k := 1) (u := .int .i64 0) rfl
  have fz := x1.frozen
  clear x0
  go_region_held3 (fun w' => w'.cell? ⟨b, 21 + k * 7 + 4, none⟩ = some (.int .i64 cn) ∧ w'.cell? ⟨b, 21 + k * 7 + 5, none⟩ = some (.int .i64 id)) (first | exact ⟨c4, c5⟩ | exact ⟨(World.cell?_of_block ((Below.heap_setCell _ _ _ b hbl).trans (Below.heap_setCell _ _ _ b hbl))).trans c4, (World.cell?_of_block ((Below.heap_setCell _ _ _ b hbl).trans (Below.heap_setCell _ _ _ b hbl))).trans c5⟩) (fail)
  go_wp2
  have x2 := (x1.set 0 (.int .i64 cn)).set 1 (.int .i64 id)
  have z0 := x2.cell (k := 0) (u := .int .i64 cn) rfl
  have z1 := x2.cell (k := 1) (u := .int .i64 id) rfl
  have hfin : Below w.heap.size w ((w0.setCell ⟨w.heap.size, 0, none⟩ (.int .i64 cn)).setCell ⟨w.heap.size, 1, none⟩ (.int .i64 id)) := (hb0.setCell (by simp) _).setCell (by simp) _
  exact bodyPost_ret (v := .tuple #[.agg #[.int .i64 cn, .int .i64 id], .bool (cn != -1)]) (by simp [results, Tryz.results88, go_sem, z0, z1]) rfl ⟨rfl, hfin.drew⟩

/-- The key of a slot, if it has one, ends with a status. -/
def PM.endKeyOf (m : PM) (k : Nat) (st : Int) : PM := cond ((m.slot k).conn != -1) (m.endKey (m.slot k).conn.toNat (m.slot k).id st) m

/-- A slot's connection is none, or one that there is. -/
def PM.fair (m : PM) (k : Nat) : Prop := (m.slot k).conn = -1 ∨ ∃ c : Nat, c < 4 ∧ (m.slot k).conn = c

set_option maxRecDepth 100000 in
set_option maxHeartbeats 2000000 in
theorem endKeyOf_any (h : FMem o q w b m sv rv) (hq : q ≠ 0) (k : Nat) (hk : k < 6) (hf : m.fair k) (st : Int) (h0 : 0 ≤ st) (h1 : st ≤ 255) (hs : ∀ c, c < 4 → (m.con c).sent.length ≤ 1000000000000) (hmax : m.req.length ≤ 1000000000000) :
    Calls Tryz.prog 91 #[.pointer (some ⟨b, 0, none⟩), .int .i64 k, .int .i64 st] w fun r w' => r = .returned (.tuple #[]) ∧ ∃ o' sv' rv', FMem o' q w' b (m.endKeyOf k st) sv' rv' ∧ Fr q o w o' w' := by
  have hkI : (k : Int) < 6 := by omega
  unfold PM.endKeyOf
  rcases hf with e | ⟨c, hc, e⟩
  · have hb : ((m.slot k).conn != -1) = false := by rw [e]; rfl
    have kk : Hid (∀ w', FMem o q w' b m sv rv → Calls Tryz.prog 88 #[.pointer (some ⟨b, 21 + k * 7, none⟩)] w' fun r w'' => r = .returned (.tuple #[.agg #[.int .i64 (-1), .int .i64 (m.slot k).id], .bool false]) ∧ Below w'.heap.size w' w'') := fun w' h' => by have := key_any h' k hk; rw [hb, e] at this; exact this
    rw [hb]
    simp only [cond_false]
    clear hb e
    go_enter Tryz.func91, Tryz.ntmps91
    go_wp2_with fail
    refine (kk.out _ h).mono ?_
    rintro e w1 ⟨rfl, hb1⟩
    have hm1 := h.below hb1
    go_wp2
    exact bodyPost_end (v := .tuple #[]) (by simp [results, Tryz.results91, go_sem]) rfl ⟨rfl, o, sv, rv, hm1.alloc _, (Fr.of_below (q := q) h.clean hb1).below ((Below.refl _ _).alloc (Nat.le_refl _) _)⟩
  · have hb : ((m.slot k).conn != -1) = true := by rw [e]; simp
    have kk : Hid (∀ w', FMem o q w' b m sv rv → Calls Tryz.prog 88 #[.pointer (some ⟨b, 21 + k * 7, none⟩)] w' fun r w'' => r = .returned (.tuple #[.agg #[.int .i64 (c : Nat), .int .i64 (m.slot k).id], .bool true]) ∧ Below w'.heap.size w' w'') := fun w' h' => by have := key_any h' k hk; rw [hb, e] at this; exact this
    rw [hb, e]
    simp only [cond_true, Int.toNat_natCast]
    clear hb e
    go_enter Tryz.func91, Tryz.ntmps91
    go_wp2_with fail
    refine (kk.out _ h).mono ?_
    rintro e w1 ⟨rfl, hb1⟩
    have hm1 := h.below hb1
    have hb2 : Below w1.heap.size w1 (w1.alloc (.cells #[.int .i64 c, .int .i64 (m.slot k).id] 89)) := (Below.refl _ _).alloc (Nat.le_refl _) _
    go_wp2_with fail
    refine (end_any (hm1.below hb2) hq c hc (m.slot k).id st h0 h1 (hs c hc) hmax).mono ?_
    rintro e w2 ⟨rfl, o2, sv2, rv2, hm2, fr2⟩
    go_wp2
    exact bodyPost_end (v := .tuple #[]) (by simp [results, Tryz.results91, go_sem]) rfl ⟨rfl, o2, sv2, rv2, hm2, ((Fr.of_below (q := q) h.clean hb1).below hb2).trans fr2⟩

def PM.mustGo (m : PM) (k : Nat) : Bool := (m.slot k).old || (decide (0 < m.set.mr) && decide (m.set.mr ≤ (m.slot k).served))

theorem FMem.mrc (h : FMem o q w b m sv rv) : w.cell? ⟨b, 4, none⟩ = some (.int .i64 m.set.mr) := h.blk.cell rfl

set_option maxRecDepth 100000 in
set_option maxHeartbeats 2000000 in
theorem mustGo_any (h : FMem o q w b m sv rv) (k : Nat) (hk : k < 6) :
    Calls Tryz.prog 92 #[.pointer (some ⟨b, 0, none⟩), .int .i64 k] w fun r w' => r = .returned (.bool (m.mustGo k)) ∧ Below w.heap.size w w' := by
  have hkI : (k : Int) < 6 := by omega
  obtain ⟨c0, c1, c2, c3, c4, c5, -⟩ := h.slotc hk
  have cm := h.mrc
  have hbl : b ≠ w.heap.size := Nat.ne_of_lt h.blk.lt
  unfold PM.mustGo
  have hb0 : ∀ ob, Below w.heap.size w (w.alloc ob) := fun ob => (Below.refl _ _).alloc (Nat.le_refl _) ob
  have hA := fun ob => (h.below (hb0 ob)).mrc
  have x0 := Blk.made w 59 [.int .i64 (m.slot k).st, .bool (m.slot k).old, .int .i64 (m.slot k).served, .int .i64 (m.slot k).since, .int .i64 (m.slot k).conn, .int .i64 (m.slot k).id]
  generalize (m.slot k).st = s0 at *
  generalize (m.slot k).old = old at *
  generalize (m.slot k).served = srv at *
  generalize (m.slot k).since = snc at *
  generalize (m.slot k).conn = cn at *
  generalize (m.slot k).id = id at *
  generalize m.set.mr = mr at *
  have y1 := x0.cell (k := 1) (u := .bool old) rfl
  have y2 := x0.cell (k := 2) (u := .int .i64 srv) rfl
  cases old
  · by_cases h1 : 0 < mr
    · have g1 : decide (0 < mr) = true := by simpa using h1
      have g2 : decide (mr > 0) = true := g1
      by_cases h2 : mr ≤ srv
      · have g3 : decide (mr ≤ srv) = true := by simpa using h2
        have g4 : decide (srv ≥ mr) = true := g3
        rw [g1, g3]
        go_enter Tryz.func92, Tryz.ntmps92
        go_wp2
        go_quiet (fail)
        go_wp2
        go_ret
        exact ⟨rfl, below_dN (hb0 _)⟩
      · have g3 : decide (mr ≤ srv) = false := by simpa using h2
        have g4 : decide (srv ≥ mr) = false := g3
        rw [g1, g3]
        go_enter Tryz.func92, Tryz.ntmps92
        go_wp2
        go_quiet (fail)
        go_wp2
        go_ret
        exact ⟨rfl, below_dN (hb0 _)⟩
    · have g1 : decide (0 < mr) = false := by simpa using h1
      have g2 : decide (mr > 0) = false := g1
      rw [g1]
      go_enter Tryz.func92, Tryz.ntmps92
      go_wp2
      go_quiet (fail)
      go_wp2
      go_ret
      exact ⟨rfl, below_dN (hb0 _)⟩
  · go_enter Tryz.func92, Tryz.ntmps92
    go_wp2
    go_quiet (fail)
    go_wp2
    go_ret
    exact ⟨rfl, below_dN (hb0 _)⟩

end
end Go.Proofs.YtlafkpaljibonaaGreat
