import Derived.Test.YtlafkpaljibonaaJ6
import Derived.Deep.LoopGhost
namespace Go.Proofs.Ytlafkpaljibonaa
open Go.RowKit

def PM.setRest (m : PM) (k : Nat) (s : ByteArray) : PM := { m with con := upd m.con k { m.con k with rest := s } }
def PM.takeAll (k : Nat) (all : ByteArray) : Nat → PM → Nat → PM
  | 0, m, t => m.setRest k (left all t)
  | f + 1, m, t =>
    if rcode true (left all t) = 0 then m.setRest k (left all t)
    else if rcode true (left all t) = 1 then m.close k
    else cond (m.again k (recT (left all t)).2.1 (recT (left all t)).1) (m.close k) (PM.takeAll k all f ((m.take k (recT (left all t))).settle) (t + sizeT (left all t)))

theorem rcode_cases (c : Bool) (t : ByteArray) : rcode c t = 0 ∨ rcode c t = 1 ∨ rcode c t = 2 := by
  unfold rcode
  split
  · exact .inl rfl
  · split
    · exact .inr (.inl rfl)
    · split
      · exact .inl rfl
      · exact .inr (.inr rfl)

theorem rec_size {t : ByteArray} : (recT t).2.2.size ≤ t.size := by
  simp only [recT, ByteArray.size_extract]; omega

theorem two_blks (w : World) (A B : List Value) (T1 T2 : TypeId) :
    let W := (w.alloc (.cells A.toArray T1)).alloc (.cells B.toArray T2)
    Blk W w.heap.size T1 A ∧ Blk W (w.heap.size + 1) T2 B ∧ Below w.heap.size w W := by
  intro W
  have e1 : (w.alloc (.cells A.toArray T1)).heap.size = w.heap.size + 1 := by simp
  have b1 := Blk.made w T1 A
  have b2 := Blk.made (w.alloc (.cells A.toArray T1)) T2 B
  rw [e1] at b2
  have s1 := fun (x : World) (ob : Obj) => (Below.refl x.heap.size x).alloc (Nat.le_refl _) ob
  exact ⟨b1.below (s1 _ _), b2, ((Below.refl _ _).alloc (Nat.le_refl _) _).alloc (by simp) _⟩

section
variable {o : Nat → Tag} {q : Nat} {w : World} {b : Nat} {m : PM} {sv : Nat → Value} {rv : Value}

theorem fcells_rest (m : PM) (sv : Nat → Value) (rv : Value) (k : Nat) (hk : k < 4) (s : ByteArray) :
    (fcells m sv rv).set (8 + k * 3 + 1) (.string s) = fcells (m.setRest k s) sv rv := by
  rcases k with _ | _ | _ | _ | k <;> first | rfl | omega

theorem FMem.putRest (h : FMem o q w b m sv rv) {k : Nat} (hk : k < 4) (s : ByteArray) :
    FMem o q (w.setCell ⟨b, 8 + k * 3 + 1, none⟩ (.string s)) b (m.setRest k s) sv rv ∧ Fr q o w o (w.setCell ⟨b, 8 + k * 3 + 1, none⟩ (.string s)) := by
  have hoth : ∀ x, x ≠ b → (w.setCell ⟨b, 8 + k * 3 + 1, none⟩ (.string s)).heap[x]? = w.heap[x]? := fun x hx => Below.heap_setCell _ _ _ x hx
  have hbk := h.blk.set (8 + k * 3 + 1) (.string s)
  rw [fcells_rest m sv rv k hk s] at hbk
  have hsent : ∀ j, j < 4 → ((m.setRest k s).con j).sent = (m.con j).sent := by
    intro j _
    simp only [PM.setRest, upd]
    split
    · rename_i e; rw [e]
    · rfl
  have hm1 := h.put hbk (by simp [World.setCell]) hoth hsent rfl
  exact ⟨hm1, h.fr_put hm1 (by simp [World.setCell]) (by simp [World.setCell]) (by simp [World.setCell]) (by simp [World.setCell]) hoth⟩

set_option maxRecDepth 100000 in
set_option maxHeartbeats 4000000 in
theorem takeAll_any (h : FMem o q w b m sv rv) (hq : q ≠ 0) (k : Nat) (hk : k < 4) (all : ByteArray) (hall : all.size ≤ 1000000000) {R S : Nat} (hsm : m.small R S) (hR : R ≤ 10000000000) (hS : S ≤ 10000000000) :
    Calls Try.prog 58 #[.pointer (some ⟨b, 0, none⟩), .int .i64 k, .string all] w fun r w' => r = .returned (.tuple #[]) ∧ ∃ o' sv' rv', FMem o' q w' b (PM.takeAll k all (all.size + 1) m 0) sv' rv' ∧ Fr q o w o' w' := by
  have hkI : (k : Int) < 4 := by omega
  go_enter Try.func58, Try.ntmps58
  go_wp2
  go_loopw [6] (fun i w' => ∃ (M : PM) (n f : Nat) (o' : Nat → Tag) (sv' : Nat → Value) (rv' : Value), i = .int .i64 n ∧ n ≤ all.size ∧ all.size - n < f ∧ FMem o' q w' b M sv' rv' ∧ Fr q o w o' w' ∧ PM.takeAll k all (all.size + 1) m 0 = PM.takeAll k all f M n ∧ M.small (R + n) (S + 208 * n)) (fun i _ => all.size - (intOf i).toNat)
  case atStart => exact ⟨m, 0, all.size + 1, o, sv, rv, rfl, Nat.zero_le _, by omega, h, Fr.refl h.clean, rfl, hsm.mono (by omega) (by omega)⟩
  case round =>
    obtain ⟨M, n, f, o1, sv1, rv1, rfl, hn, hf, hm, hfr, heq, hsmall⟩ := hrel
    clear h hsm
    have HEQ : Hid _ := heq
    clear heq
    obtain ⟨f', rfl⟩ : ∃ f', f = f' + 1 := ⟨f - 1, by omega⟩
    have HST : Hid (PM.takeAll k all (f' + 1) M n = if rcode true (left all n) = 0 then M.setRest k (left all n) else if rcode true (left all n) = 1 then M.close k else cond (M.again k (recT (left all n)).2.1 (recT (left all n)).1) (M.close k) (PM.takeAll k all f' ((M.take k (recT (left all n))).settle) (n + sizeT (left all n)))) := rfl
    by_cases hlt : n < all.size
    · have hls := left_size all n
      rcases rcode_cases true (left all n) with hc | hc | hc
      · have hv : reqV (all.extract n all.size) = .tuple #[nilRec, .int .i64 0, .int .i64 0] := by simp [reqV, show rcode true (all.extract n all.size) = 0 from hc]
        have HV : Hid (PM.takeAll k all (all.size + 1) m 0 = M.setRest k (left all n)) := by
          show _ = _
          rw [HEQ.out, HST.out, if_pos hc]
        clear hc HST HEQ hls
        unfold nilRec at hv
        go_wp2_with fail
        refine (firstRequest_any (all.extract n all.size) _ (by rw [ByteArray.size_extract]; omega)).mono ?_
        rintro e w1 ⟨rfl, hb⟩
        rw [hv]
        clear hv
        have hm1 := hm.below hb
        have fr1 := hfr.below hb
        go_wp2_with fail
        have hbX : Below w1.heap.size w1 (w1.alloc (.cells #[.int .i64 0, .int .i64 0, .string ⟨#[]⟩] 23)) := (Below.refl _ _).alloc (Nat.le_refl _) _
        have hmX := hm1.below hbX
        have frX := fr1.below hbX
        generalize w1.alloc (.cells #[.int .i64 0, .int .i64 0, .string ⟨#[]⟩] 23) = wX at *
        have kj : Hid (∀ w, Calls Try.prog 85 #[.string ⟨#[]⟩, .string (all.extract n all.size)] w fun r w' => r = .returned (.string (left all n)) ∧ Below w.heap.size w w') := fun w => by
          have := joined_any ⟨#[]⟩ (all.extract n all.size) w (by simp [ByteArray.size]) (by rw [ByteArray.size_extract]; omega)
          rw [nil_ba] at this
          exact this
        have hmd := hmX.below (Below.refl _ _).drew
        have hnI : (n : Int) ≤ all.size := by omega
        go_region_held3 (fun w' => True) (trivial) (first | (go_at_call 85; refine (kj.out _).mono ?_; rintro e w2 ⟨rfl, hb2⟩; have hm2 := hmd.below hb2; have cR := hm2.rest hk; have fz := hm2.frozen))
        go_wp2
        refine bodyPost_end (v := .tuple #[]) (by simp [results, Try.results58, go_sem]) rfl ⟨rfl, ?_⟩
        rw [HV.out]
        have hp := hm2.putRest hk (left all n)
        exact ⟨o1, sv1, rv1, hp.1, ((frX.below (Below.refl _ _).drew).below hb2).trans hp.2⟩
      · have hv : reqV (all.extract n all.size) = .tuple #[nilRec, .int .i64 0, .int .i64 7] := by simp [reqV, show rcode true (all.extract n all.size) = 1 from hc]
        have HV : Hid (PM.takeAll k all (all.size + 1) m 0 = M.close k) := by
          show _ = _
          rw [HEQ.out, HST.out, if_neg (by rw [hc]; omega), if_pos hc]
        clear hc HST HEQ hls
        unfold nilRec at hv
        go_wp2_with fail
        refine (firstRequest_any (all.extract n all.size) _ (by rw [ByteArray.size_extract]; omega)).mono ?_
        rintro e w1 ⟨rfl, hb⟩
        rw [hv]
        clear hv
        have hm1 := hm.below hb
        have fr1 := hfr.below hb
        go_wp2_with fail
        have hbB : Below w1.heap.size w1 ((w1.alloc (.cells #[.int .i64 0, .int .i64 0, .string ⟨#[]⟩] 23)).alloc (.cells #[.int .i64 k, .int .i64 0] 109)) := ((Below.refl _ _).alloc (Nat.le_refl _) _).alloc (by simp) _
        refine (close_any (hm1.below hbB) hq k hk (by have := hsmall.req; omega)).mono ?_
        rintro e w2 ⟨rfl, o2, rv2, hm2, fr2⟩
        go_wp2
        refine bodyPost_ret (v := .tuple #[]) (by simp [results, Try.results58, go_sem]) rfl ⟨rfl, ?_⟩
        rw [HV.out]
        exact ⟨o2, sv1, rv2, hm2, (fr1.below hbB).trans fr2⟩
      · obtain ⟨q1, q2, -, -, -⟩ := rcode_two hc
        rw [hls] at q2
        have hrs := rec_size (t := left all n)
        rw [hls] at hrs
        have hv : reqV (all.extract n all.size) = .tuple #[.agg #[.int .i64 (recT (left all n)).1, .int .i64 (recT (left all n)).2.1, .string (recT (left all n)).2.2], .int .i64 (sizeT (left all n)), .int .i64 0] := by simp [reqV, show rcode true (all.extract n all.size) = 2 from hc, left]
        have HV : Hid (PM.takeAll k all (all.size + 1) m 0 = cond (M.again k (recT (left all n)).2.1 (recT (left all n)).1) (M.close k) (PM.takeAll k all f' ((M.take k (recT (left all n))).settle) (n + sizeT (left all n)))) := by
          show _ = _
          rw [HEQ.out, HST.out, if_neg (by rw [hc]; omega), if_neg (by rw [hc]; omega)]
        clear hc HST HEQ hls
        generalize recT (left all n) = r at *
        generalize sizeT (left all n) = z at *
        have hne : ((z : Int) == 0) = false := by simp; omega
        have ka : Hid (∀ w', FMem o1 q w' b M sv1 rv1 → Calls Try.prog 83 #[.pointer (some ⟨b, 0, none⟩), .agg #[.int .i64 k, .int .i64 r.2.1], .int .i64 r.1] w' fun e w'' => e = .returned (.bool (M.again k r.2.1 r.1)) ∧ Below w'.heap.size w' w'') := fun w' h' => beginsAgain_any h' k r.2.1 r.1
        have hreq := hsmall.req
        cases hag : M.again k r.2.1 r.1
        · rw [hag] at ka HV
          simp only [cond_false] at HV
          go_wp2_with fail
          refine (firstRequest_any (all.extract n all.size) _ (by rw [ByteArray.size_extract]; omega)).mono ?_
          rintro e w1 ⟨rfl, hb⟩
          rw [hv]
          clear hv
          have hm1 := hm.below hb
          have fr1 := hfr.below hb
          obtain ⟨k0, k1, kbb⟩ := two_blks w1 [.int .i64 r.1, .int .i64 r.2.1, .string r.2.2] [.int .i64 k, .int .i64 r.2.1] 23 109
          go_wp2_with fail
          refine (ka.out _ (hm1.below kbb)).mono ?_
          rintro e w2 ⟨rfl, hb2⟩
          have j0 := k0.below hb2
          have j1 := k1.below hb2
          have hm2 := (hm1.below kbb).below hb2
          have fr2 := (fr1.below kbb).below hb2
          have a0 := j0.cell (k := 0) (u := .int .i64 r.1) rfl
          have a1 := j0.cell (k := 1) (u := .int .i64 r.2.1) rfl
          have a2 := j0.cell (k := 2) (u := .string r.2.2) rfl
          have d0 := j1.cell (k := 0) (u := .int .i64 k) rfl
          have d1 := j1.cell (k := 1) (u := .int .i64 r.2.1) rfl
          clear k0 k1 kbb hb hb2 ka
          go_wp2_with fail
          refine (take_any hm2 hq k hk r (by omega) hsmall (by omega) (by omega)).mono ?_
          rintro e w3 ⟨rfl, o3, sv3, rv3, hm3, fr3⟩
          clear a0 a1 a2 d0 d1
          go_wp2_with fail
          refine (settle_any hm3).mono ?_
          rintro e w4 ⟨rfl, hm4, fr4⟩
          go_wp2
          refine ⟨⟨(M.take k r).settle, n + z, f', o3, sv3, rv3, by go_num, by omega, by omega, hm4, (fr2.trans fr3).trans fr4, HV.out, ((hsmall.take k r).settle).mono (by omega) (by omega)⟩, by simp [intOf]; omega⟩
        · rw [hag] at ka HV
          simp only [cond_true] at HV
          go_wp2_with fail
          refine (firstRequest_any (all.extract n all.size) _ (by rw [ByteArray.size_extract]; omega)).mono ?_
          rintro e w1 ⟨rfl, hb⟩
          rw [hv]
          clear hv
          have hm1 := hm.below hb
          have fr1 := hfr.below hb
          obtain ⟨k0, k1, kbb⟩ := two_blks w1 [.int .i64 r.1, .int .i64 r.2.1, .string r.2.2] [.int .i64 k, .int .i64 r.2.1] 23 109
          go_wp2_with fail
          refine (ka.out _ (hm1.below kbb)).mono ?_
          rintro e w2 ⟨rfl, hb2⟩
          have hm2 := (hm1.below kbb).below hb2
          have fr2 := (fr1.below kbb).below hb2
          clear k0 k1 kbb hb hb2 ka
          go_wp2_with fail
          refine (close_any hm2 hq k hk (by omega)).mono ?_
          rintro e w3 ⟨rfl, o3, rv3, hm3, fr3⟩
          go_wp2
          refine bodyPost_ret (v := .tuple #[]) (by simp [results, Try.results58, go_sem]) rfl ⟨rfl, ?_⟩
          rw [HV.out]
          exact ⟨o3, sv1, rv3, hm3, fr2.trans fr3⟩
    · have hne : n = all.size := by omega
      have HV : Hid (PM.takeAll k all (all.size + 1) m 0 = M.setRest k (left all n)) := by
        show _ = _
        rw [HEQ.out, HST.out, if_pos]
        unfold rcode
        rw [if_pos]
        rw [left_size]; omega
      clear HST HEQ hne
      have hm1 := hm
      have fr1 := hfr
      go_wp2_with fail
      have hmX := hm1
      have frX := fr1
      have kj : Hid (∀ w, Calls Try.prog 85 #[.string ⟨#[]⟩, .string (all.extract n all.size)] w fun r w' => r = .returned (.string (left all n)) ∧ Below w.heap.size w w') := fun w => by
        have := joined_any ⟨#[]⟩ (all.extract n all.size) w (by simp [ByteArray.size]) (by rw [ByteArray.size_extract]; omega)
        rw [nil_ba] at this
        exact this
      have hmd := hmX.below (Below.refl _ _).drew
      have hnI : (n : Int) ≤ all.size := by omega
      go_region_held3 (fun w' => True) (trivial) (first | (go_at_call 85; refine (kj.out _).mono ?_; rintro e w2 ⟨rfl, hb2⟩; have hm2 := hmd.below hb2; have cR := hm2.rest hk; have fz := hm2.frozen))
      go_wp2
      refine bodyPost_end (v := .tuple #[]) (by simp [results, Try.results58, go_sem]) rfl ⟨rfl, ?_⟩
      rw [HV.out]
      have hp := hm2.putRest hk (left all n)
      exact ⟨o1, sv1, rv1, hp.1, ((frX.below (Below.refl _ _).drew).below hb2).trans hp.2⟩

end
end Go.Proofs.Ytlafkpaljibonaa

namespace Go.Proofs.Ytlafkpaljibonaa
open Go.RowKit

def PM.feed (m : PM) (k : Nat) (s : ByteArray) : PM := PM.takeAll k ((m.con k).rest ++ s) (((m.con k).rest ++ s).size + 1) m 0
def PM.afterFeed (m : PM) (n : Int) (s : ByteArray) : PM := cond (m.chk n == 0) (m.feed n.toNat s) m

section
variable {o : Nat → Tag} {q : Nat} {w : World} {b : Nat} {m : PM} {sv : Nat → Value} {rv : Value}

set_option maxRecDepth 100000 in
set_option maxHeartbeats 2000000 in
theorem feed_any (h : FMem o q w b m sv rv) (hq : q ≠ 0) (n : Int) (s : ByteArray) (hs : s.size ≤ 100000000) (hrest : ∀ k, k < 4 → (m.con k).rest.size ≤ 100000000) {R S : Nat} (hsm : m.small R S) (hR : R ≤ 10000000000) (hS : S ≤ 10000000000) :
    Calls Try.prog 25 #[.pointer (some ⟨b, 0, none⟩), .int .i64 n, .string s] w fun r w' => r = .returned (.int .i64 (m.chk n)) ∧ ∃ o' sv' rv', FMem o' q w' b (m.afterFeed n s) sv' rv' ∧ Fr q o w o' w' := by
  have k1 : Hid (∀ w', FMem o q w' b m sv rv → Calls Try.prog 57 #[.pointer (some ⟨b, 0, none⟩), .int .i64 n] w' fun r w'' => r = .returned (.int .i64 (m.chk n)) ∧ w'' = w') := fun w' h' => checkOpen_any h' n
  unfold PM.afterFeed
  by_cases he : m.chk n = 0
  · have : ∃ k : Nat, k < 4 ∧ n = k := by
      rcases isC_cases n with h0 | ⟨h0, k, hk, e⟩
      · simp [PM.chk, h0] at he
      · exact ⟨k, hk, e⟩
    rw [he] at k1
    rw [he]
    simp only [beq_self_eq_true, cond_true]
    obtain ⟨k, hk, rfl⟩ := this
    simp only [Int.toNat_natCast]
    clear he
    have c1 := h.rest hk
    have hr := hrest k hk
    unfold PM.feed
    generalize (m.con k).rest = rest at *
    have hcat : ¬ (9223372036854775807 < rest.size + s.size) := by omega
    have hsz : (rest ++ s).size ≤ 1000000000 := by rw [ByteArray.size_append]; omega
    go_enter Try.func25, Try.ntmps25
    go_wp2_with fail
    refine (k1.out _ h).mono ?_
    rintro e w1 ⟨rfl, rfl⟩
    go_wp2_with fail
    refine (takeAll_any h hq k hk (rest ++ s) hsz hsm hR hS).mono ?_
    rintro e w2 ⟨rfl, o', sv', rv', hm, fr⟩
    go_wp2
    go_ret
    exact ⟨rfl, o', sv', rv', hm, fr⟩
  · have he2 : (m.chk n == 0) = false := by simpa using he
    simp only [he2, cond_false]
    generalize m.chk n = E at *
    go_enter Try.func25, Try.ntmps25
    go_wp2_with fail
    refine (k1.out _ h).mono ?_
    rintro e w1 ⟨rfl, rfl⟩
    go_wp2
    go_ret
    exact ⟨rfl, o, sv, rv, h, Fr.refl h.clean⟩
end
end Go.Proofs.Ytlafkpaljibonaa

namespace Go.Proofs.Ytlafkpaljibonaa
open Go.RowKit

section
variable {o : Nat → Tag} {q : Nat} {w : World} {b : Nat} {m : PM} {sv : Nat → Value} {rv : Value}

set_option maxRecDepth 100000 in
set_option maxHeartbeats 2000000 in
theorem key_any (h : FMem o q w b m sv rv) (k : Nat) (hk : k < 6) :
    Calls Try.prog 76 #[.pointer (some ⟨b, 21 + k * 7, none⟩)] w fun r w' => r = .returned (.tuple #[.agg #[.int .i64 (m.slot k).conn, .int .i64 (m.slot k).id], .bool ((m.slot k).conn != -1)]) ∧ Below w.heap.size w w' := by
  have hb0 : Below w.heap.size w (w.alloc (.cells #[.int .i64 0, .int .i64 0] 109)) := (Below.refl _ _).alloc (Nat.le_refl _) _
  have x0 := Blk.made w 109 [.int .i64 0, .int .i64 0]
  have hA := h.below hb0
  obtain ⟨-, -, -, -, c4, c5, -⟩ := hA.slotc hk
  have hbl : b ≠ w.heap.size := Nat.ne_of_lt h.blk.lt
  generalize (m.slot k).conn = cn at *
  generalize (m.slot k).id = id at *
  go_enter Try.func76, Try.ntmps76
  go_wp2_with fail
  have x1 : Blk (w.alloc (.cells #[.int .i64 0, .int .i64 0] 109)) w.heap.size 109 [.int .i64 0, .int .i64 0] := x0
  generalize w.alloc (.cells #[.int .i64 0, .int .i64 0] 109) = w0 at *
  have y0 := x1.cell (k := 0) (u := .int .i64 0) rfl
  have y1 := x1.cell (k := 1) (u := .int .i64 0) rfl
  have fz := x1.frozen
  clear x0
  go_region_held3 (fun w' => w'.cell? ⟨b, 21 + k * 7 + 4, none⟩ = some (.int .i64 cn) ∧ w'.cell? ⟨b, 21 + k * 7 + 5, none⟩ = some (.int .i64 id)) (first | exact ⟨c4, c5⟩ | exact ⟨(World.cell?_of_block ((Below.heap_setCell _ _ _ b hbl).trans (Below.heap_setCell _ _ _ b hbl))).trans c4, (World.cell?_of_block ((Below.heap_setCell _ _ _ b hbl).trans (Below.heap_setCell _ _ _ b hbl))).trans c5⟩) (fail)
  go_wp2
  have x2 := (x1.set 0 (.int .i64 cn)).set 1 (.int .i64 id)
  have z0 := x2.cell (k := 0) (u := .int .i64 cn) rfl
  have z1 := x2.cell (k := 1) (u := .int .i64 id) rfl
  have hfin : Below w.heap.size w ((w0.setCell ⟨w.heap.size, 0, none⟩ (.int .i64 cn)).setCell ⟨w.heap.size, 1, none⟩ (.int .i64 id)) := (hb0.setCell (by simp) _).setCell (by simp) _
  exact bodyPost_ret (v := .tuple #[.agg #[.int .i64 cn, .int .i64 id], .bool (cn != -1)]) (by simp [results, Try.results76, go_sem, z0, z1]) rfl ⟨rfl, hfin.drew⟩

/-- The key of a slot, if it has one, ends with a status. -/
def PM.endKeyOf (m : PM) (k : Nat) (st : Int) : PM := cond ((m.slot k).conn != -1) (m.endKey (m.slot k).conn.toNat (m.slot k).id st) m

/-- A slot's connection is none, or one that there is. -/
def PM.fair (m : PM) (k : Nat) : Prop := (m.slot k).conn = -1 ∨ ∃ c : Nat, c < 4 ∧ (m.slot k).conn = c

set_option maxRecDepth 100000 in
set_option maxHeartbeats 2000000 in
theorem endKeyOf_any (h : FMem o q w b m sv rv) (hq : q ≠ 0) (k : Nat) (hk : k < 6) (hf : m.fair k) (st : Int) (h0 : 0 ≤ st) (h1 : st ≤ 255) (hs : ∀ c, c < 4 → (m.con c).sent.length ≤ 1000000000000) (hmax : m.req.length ≤ 1000000000000) :
    Calls Try.prog 78 #[.pointer (some ⟨b, 0, none⟩), .int .i64 k, .int .i64 st] w fun r w' => r = .returned (.tuple #[]) ∧ ∃ o' sv' rv', FMem o' q w' b (m.endKeyOf k st) sv' rv' ∧ Fr q o w o' w' := by
  have hkI : (k : Int) < 6 := by omega
  unfold PM.endKeyOf
  rcases hf with e | ⟨c, hc, e⟩
  · have hb : ((m.slot k).conn != -1) = false := by rw [e]; rfl
    have kk : Hid (∀ w', FMem o q w' b m sv rv → Calls Try.prog 76 #[.pointer (some ⟨b, 21 + k * 7, none⟩)] w' fun r w'' => r = .returned (.tuple #[.agg #[.int .i64 (-1), .int .i64 (m.slot k).id], .bool false]) ∧ Below w'.heap.size w' w'') := fun w' h' => by have := key_any h' k hk; rw [hb, e] at this; exact this
    rw [hb]
    simp only [cond_false]
    clear hb e
    go_enter Try.func78, Try.ntmps78
    go_wp2_with fail
    refine (kk.out _ h).mono ?_
    rintro e w1 ⟨rfl, hb1⟩
    have hm1 := h.below hb1
    go_wp2
    exact bodyPost_end (v := .tuple #[]) (by simp [results, Try.results78, go_sem]) rfl ⟨rfl, o, sv, rv, hm1.alloc _, (Fr.of_below (q := q) h.clean hb1).below ((Below.refl _ _).alloc (Nat.le_refl _) _)⟩
  · have hb : ((m.slot k).conn != -1) = true := by rw [e]; simp
    have kk : Hid (∀ w', FMem o q w' b m sv rv → Calls Try.prog 76 #[.pointer (some ⟨b, 21 + k * 7, none⟩)] w' fun r w'' => r = .returned (.tuple #[.agg #[.int .i64 (c : Nat), .int .i64 (m.slot k).id], .bool true]) ∧ Below w'.heap.size w' w'') := fun w' h' => by have := key_any h' k hk; rw [hb, e] at this; exact this
    rw [hb, e]
    simp only [cond_true, Int.toNat_natCast]
    clear hb e
    go_enter Try.func78, Try.ntmps78
    go_wp2_with fail
    refine (kk.out _ h).mono ?_
    rintro e w1 ⟨rfl, hb1⟩
    have hm1 := h.below hb1
    have hb2 : Below w1.heap.size w1 (w1.alloc (.cells #[.int .i64 c, .int .i64 (m.slot k).id] 109)) := (Below.refl _ _).alloc (Nat.le_refl _) _
    go_wp2_with fail
    refine (end_any (hm1.below hb2) hq c hc (m.slot k).id st h0 h1 (hs c hc) hmax).mono ?_
    rintro e w2 ⟨rfl, o2, sv2, rv2, hm2, fr2⟩
    go_wp2
    exact bodyPost_end (v := .tuple #[]) (by simp [results, Try.results78, go_sem]) rfl ⟨rfl, o2, sv2, rv2, hm2, ((Fr.of_below (q := q) h.clean hb1).below hb2).trans fr2⟩

def PM.mustGo (m : PM) (k : Nat) : Bool := (m.slot k).old || (decide (0 < m.set.mr) && decide (m.set.mr ≤ (m.slot k).served))

theorem FMem.mrc (h : FMem o q w b m sv rv) : w.cell? ⟨b, 4, none⟩ = some (.int .i64 m.set.mr) := h.blk.cell rfl

set_option maxRecDepth 100000 in
set_option maxHeartbeats 2000000 in
theorem mustGo_any (h : FMem o q w b m sv rv) (k : Nat) (hk : k < 6) :
    Calls Try.prog 79 #[.pointer (some ⟨b, 0, none⟩), .int .i64 k] w fun r w' => r = .returned (.bool (m.mustGo k)) ∧ Below w.heap.size w w' := by
  have hkI : (k : Int) < 6 := by omega
  obtain ⟨c0, c1, c2, c3, c4, c5, -⟩ := h.slotc hk
  have cm := h.mrc
  have hbl : b ≠ w.heap.size := Nat.ne_of_lt h.blk.lt
  unfold PM.mustGo
  have hb0 : ∀ ob, Below w.heap.size w (w.alloc ob) := fun ob => (Below.refl _ _).alloc (Nat.le_refl _) ob
  have hA := fun ob => (h.below (hb0 ob)).mrc
  have x0 := Blk.made w 58 [.int .i64 (m.slot k).st, .bool (m.slot k).old, .int .i64 (m.slot k).served, .int .i64 (m.slot k).since, .int .i64 (m.slot k).conn, .int .i64 (m.slot k).id]
  generalize (m.slot k).st = s0 at *
  generalize (m.slot k).old = old at *
  generalize (m.slot k).served = srv at *
  generalize (m.slot k).since = snc at *
  generalize (m.slot k).conn = cn at *
  generalize (m.slot k).id = id at *
  generalize m.set.mr = mr at *
  have y1 := x0.cell (k := 1) (u := .bool old) rfl
  have y2 := x0.cell (k := 2) (u := .int .i64 srv) rfl
  cases old
  · by_cases h1 : 0 < mr
    · have g1 : decide (0 < mr) = true := by simpa using h1
      have g2 : decide (mr > 0) = true := g1
      by_cases h2 : mr ≤ srv
      · have g3 : decide (mr ≤ srv) = true := by simpa using h2
        have g4 : decide (srv ≥ mr) = true := g3
        rw [g1, g3]
        go_enter Try.func79, Try.ntmps79
        go_wp2
        go_quiet (fail)
        go_wp2
        go_ret
        exact ⟨rfl, below_dN (hb0 _)⟩
      · have g3 : decide (mr ≤ srv) = false := by simpa using h2
        have g4 : decide (srv ≥ mr) = false := g3
        rw [g1, g3]
        go_enter Try.func79, Try.ntmps79
        go_wp2
        go_quiet (fail)
        go_wp2
        go_ret
        exact ⟨rfl, below_dN (hb0 _)⟩
    · have g1 : decide (0 < mr) = false := by simpa using h1
      have g2 : decide (mr > 0) = false := g1
      rw [g1]
      go_enter Try.func79, Try.ntmps79
      go_wp2
      go_quiet (fail)
      go_wp2
      go_ret
      exact ⟨rfl, below_dN (hb0 _)⟩
  · go_enter Try.func79, Try.ntmps79
    go_wp2
    go_quiet (fail)
    go_wp2
    go_ret
    exact ⟨rfl, below_dN (hb0 _)⟩

end
end Go.Proofs.Ytlafkpaljibonaa

namespace Go.Proofs.Ytlafkpaljibonaa
open Go.RowKit

/-- What a worker puts out, as records one behind the other. -/
def PM.outN (c : Nat) (i : Int) : Nat → PM → ByteArray → PM
  | 0, m, _ => m
  | f + 1, m, t => if t.size = 0 then m else PM.outN c i f (m.sendB c (encB 6 i (t.extract 0 (min t.size 200)))) (t.extract (min t.size 200) t.size)
def PM.sendOut (m : PM) (c : Nat) (i : Int) (s : ByteArray) : PM := PM.outN c i s.size m s

theorem PM.outN_nil (c : Nat) (i : Int) (f : Nat) (m : PM) (t : ByteArray) (h : t.size = 0) : PM.outN c i f m t = m := by
  cases f with
  | zero => rfl
  | succ f => simp [PM.outN, h]

theorem ba_nil_iff (t : ByteArray) : (t.toList == []) = decide (t.size = 0) := by
  rw [ByteArray.toList_eq, Bool.eq_iff_iff, beq_iff_eq, decide_eq_true_eq, ← List.length_eq_zero_iff]
  exact Iff.rfl

section
variable {o : Nat → Tag} {q : Nat} {w : World} {b : Nat} {m : PM} {sv : Nat → Value} {rv : Value}

set_option maxRecDepth 100000 in
set_option maxHeartbeats 4000000 in
theorem sendOut_any (h : FMem o q w b m sv rv) (hq : q ≠ 0) (c : Nat) (hc : c < 4) (i : Int) (s : ByteArray) (hs : s.size ≤ 1000000000) {S : Nat} (hS : S ≤ 100000000000) (hsent : (m.con c).sent.length ≤ S) :
    Calls Try.prog 77 #[.pointer (some ⟨b, 0, none⟩), .agg #[.int .i64 c, .int .i64 i], .string s] w fun r w' => r = .returned (.tuple #[]) ∧ ∃ o' sv', FMem o' q w' b (m.sendOut c i s) sv' rv ∧ Fr q o w o' w' := by
  have hb0 : Below w.heap.size w (w.alloc (.cells #[.int .i64 c, .int .i64 i] 109)) := (Below.refl _ _).alloc (Nat.le_refl _) _
  have x0 := Blk.made w 109 [.int .i64 c, .int .i64 i]
  have hcl := h.clean _ (Nat.le_refl w.heap.size)
  unfold PM.sendOut
  go_enter Try.func77, Try.ntmps77
  go_wp2_with fail
  have x1 : Blk (w.alloc (.cells #[.int .i64 c, .int .i64 i] 109)) w.heap.size 109 [.int .i64 c, .int .i64 i] := x0
  have hA := h.below hb0
  have frA := Fr.of_below (q := q) h.clean hb0
  have frR := Fr.refl (q := q) hA.clean
  clear x0 hb0 h
  generalize w.alloc (.cells #[.int .i64 c, .int .i64 i] 109) = w0 at *
  have hlt0 := x1.lt
  go_loopg [2, 6] s.size (fun g t _ w' => ∃ (T : ByteArray) (M : PM) (o' : Nat → Tag) (sv' : Nat → Value), t = .string T ∧ T.size ≤ g ∧ T.size ≤ s.size ∧ FMem o' q w' b M sv' rv ∧ Fr q o w0 o' w' ∧ Blk w' w.heap.size 109 [.int .i64 c, .int .i64 i] ∧ PM.outN c i s.size m s = PM.outN c i g M T ∧ (M.con c).sent.length ≤ S + 208 * (s.size - T.size))
  case atStart => exact ⟨s, m, o, sv, rfl, Nat.le_refl _, Nat.le_refl _, hA, frR, x1, rfl, by omega⟩
  case round =>
    obtain ⟨T, M, o1, sv1, rfl, hTg, hTs, hm, hfr, hbk, heq, hsn⟩ := hrel
    clear hA frR x1
    have HOWN : Hid ((o1 w.heap.size).1 ≠ q) := by show _ ≠ _; rw [hfr.tags _ hlt0, hcl]; exact fun e => hq e.symm
    have HE : Hid _ := heq
    clear heq
    have y0 := hbk.cell (k := 0) (u := .int .i64 c) rfl
    have y1 := hbk.cell (k := 1) (u := .int .i64 i) rfl
    by_cases hT : T.size = 0
    · have hfin : Hid (PM.outN c i s.size m s = M) := by show _ = _; rw [HE.out, PM.outN_nil _ _ _ _ _ hT]
      have hn : (T.toList == []) = true := by rw [ba_nil_iff]; simpa using hT
      clear HE hT
      go_wp2
      refine bodyPost_end (v := .tuple #[]) (by simp [results, Try.results77, go_sem]) rfl ⟨rfl, ?_⟩
      rw [hfin.out]
      exact ⟨o1, sv1, hm, frA.trans hfr⟩
    · have hn : (T.toList == []) = false := by rw [ba_nil_iff]; simpa using hT
      obtain ⟨g', hg'⟩ : ∃ g', gk = g' + 1 := ⟨gk - 1, by omega⟩
      have HV : Hid (PM.outN c i s.size m s = PM.outN c i g' (M.sendB c (encB 6 i (T.extract 0 (min T.size 200)))) (T.extract (min T.size 200) T.size)) := by
        show _ = _
        rw [HE.out, hg']
        simp [PM.outN, hT]
      have hgk : g' < gk := by omega
      clear HE
      have hbX := hbk
      have hmd := hm.below (Below.refl _ _).drew
      have henc := encB_size 6 i (T.extract 0 (min T.size 200))
      have hsn2 : (M.con c).sent.length ≤ 1000000000000 := by omega
      have hlen : ((M.sendB c (encB 6 i (T.extract 0 (min T.size 200)))).con c).sent.length ≤ S + 208 * (s.size - (T.extract (min T.size 200) T.size).size) := by
        simp only [PM.sendB, upd_same, List.length_append, nums_length, ByteArray.size_extract]
        omega
      have HLEN : Hid _ := hlen
      have hsz1 : (T.extract (min T.size 200) T.size).size ≤ g' := by rw [ByteArray.size_extract]; omega
      have hsz2 : (T.extract (min T.size 200) T.size).size ≤ s.size := by rw [ByteArray.size_extract]; omega
      have HSZ1 : Hid _ := hsz1
      have HSZ2 : Hid _ := hsz2
      clear hlen hsz1 hsz2 henc hg'
      have ks : Hid (∀ w' o' sv', FMem o' q w' b M sv' rv → ∀ t, Calls Try.prog 101 #[.pointer (some ⟨b, 0, none⟩), .int .i64 (c : Nat), .agg #[.int .i64 6, .int .i64 i, .string t]] w' fun r w'' => r = .returned (.tuple #[]) ∧ ∃ o'' sv'', FMem o'' q w'' b (M.sendB c (encB 6 i t)) sv'' rv ∧ Fr q o' w' o'' w'') := fun w' o' sv' h' t => send_any h' c hc 6 i t hsn2
      by_cases hbig : 200 < T.size
      · have hmin : min T.size 200 = 200 := by omega
        rw [hmin] at HV HLEN HSZ1 HSZ2
        have hbI : (200 : Int) < T.size := by omega
        have hbI2 : (200 : Int) ≤ T.size := by omega
        clear hmin
        go_wp2_with fail
        go_region_held3 (fun w' => w'.cell? ⟨w.heap.size, 0, none⟩ = some (.int .i64 (c : Nat)) ∧ w'.cell? ⟨w.heap.size, 1, none⟩ = some (.int .i64 i)) (first | exact ⟨y0, y1⟩ | exact ⟨z0, z1⟩) (first | (go_at_call 101; refine (ks.out _ _ _ hmd _).mono ?_; rintro e w2 ⟨rfl, o2, sv2, hm2, fr2⟩; have hbk2 : Blk w2 w.heap.size 109 [.int .i64 (c : Nat), .int .i64 i] := hbk.keep (fr2.block _ hbk.lt (HOWN.out)); have z0 := hbk2.cell (k := 0) (u := .int .i64 (c : Nat)) rfl; have z1 := hbk2.cell (k := 1) (u := .int .i64 i) rfl))
        have frB := (hfr.below (Below.refl _ _).drew).trans fr2
        clear y0 y1 z0 z1 hbk hm hfr hmd
        go_wp2
        go_roundg g'
        case measure => exact hgk
        case rel => exact ⟨T.extract 200 T.size, _, o2, sv2, rfl, HSZ1.out, HSZ2.out, hm2, frB, hbk2, HV.out, HLEN.out⟩
      · have hmin : min T.size 200 = T.size := by omega
        have e1 : T.extract 0 T.size = T := by simp
        have e2 : T.extract T.size T.size = ByteArray.empty := by simp
        rw [hmin, e1, e2] at HV HLEN
        rw [hmin, e2] at HSZ1 HSZ2
        clear e1 e2
        have hbI : ¬ (200 : Int) < T.size := by omega
        clear hmin
        go_wp2_with fail
        go_region_held3 (fun w' => w'.cell? ⟨w.heap.size, 0, none⟩ = some (.int .i64 (c : Nat)) ∧ w'.cell? ⟨w.heap.size, 1, none⟩ = some (.int .i64 i)) (first | exact ⟨y0, y1⟩ | exact ⟨z0, z1⟩) (first | (go_at_call 101; refine (ks.out _ _ _ hmd _).mono ?_; rintro e w2 ⟨rfl, o2, sv2, hm2, fr2⟩; have hbk2 : Blk w2 w.heap.size 109 [.int .i64 (c : Nat), .int .i64 i] := hbk.keep (fr2.block _ hbk.lt (HOWN.out)); have z0 := hbk2.cell (k := 0) (u := .int .i64 (c : Nat)) rfl; have z1 := hbk2.cell (k := 1) (u := .int .i64 i) rfl))
        have frB := (hfr.below (Below.refl _ _).drew).trans fr2
        clear y0 y1 z0 z1 hbk hm hfr hmd
        go_wp2
        go_roundg g'
        case measure => exact hgk
        case rel => exact ⟨ByteArray.empty, _, o2, sv2, rfl, HSZ1.out, HSZ2.out, hm2, frB, hbk2, HV.out, HLEN.out⟩


end
end Go.Proofs.Ytlafkpaljibonaa

namespace Go.Proofs.Ytlafkpaljibonaa
open Go.RowKit

theorem PM.stE_zero {m : PM} {n st : Int} (h : m.stE n st = 0) : ∃ k : Nat, k < 6 ∧ n = k ∧ (m.slot k).st = st := by
  rcases isS_cases n with h0 | ⟨h0, k, hk, rfl⟩
  · simp [PM.stE, h0] at h
  · refine ⟨k, hk, rfl, ?_⟩
    simp only [PM.stE, h0, cond_true, Int.toNat_natCast] at h
    cases hs : ((m.slot k).st == st)
    · rw [hs] at h; simp at h
    · simpa using hs

def PM.spawned (m : PM) (k : Nat) : PM := (cond (m.slot k).old (m.kill k) (m.becomesAt k 2)).settle
def PM.afterSpawned (m : PM) (n : Int) : PM := cond (m.stE n 1 == 0) (m.spawned n.toNat) m
def PM.outputs (m : PM) (k : Nat) (s : ByteArray) : PM := (cond ((m.slot k).conn != -1) (m.sendOut (m.slot k).conn.toNat (m.slot k).id s) m).settle
def PM.afterOutput (m : PM) (n : Int) (s : ByteArray) : PM := cond (m.stE n 3 == 0) (m.outputs n.toNat s) m
def PM.retires (m : PM) (k : Nat) : PM := cond (m.mustGo k) (m.kill k) (m.becomesAt k 2)
def PM.finished (m : PM) (k : Nat) : PM := ((m.endKeyOf k 0).retires k).settle
def PM.afterFinished (m : PM) (n : Int) : PM := cond (m.stE n 3 == 0) (m.finished n.toNat) m
def PM.diedE (m : PM) (n : Int) : Int := cond (isS n) (cond ((m.slot n.toNat).st == 0) 6 0) 5
def PM.empties (m : PM) (k : Nat) : PM := { m with slot := upd m.slot k (newSlot 0) }
def PM.died (m : PM) (k : Nat) : PM := ((m.endKeyOf k 1).empties k).settle
def PM.afterDied (m : PM) (n : Int) : PM := cond (m.diedE n == 0) (m.died n.toNat) m

section
variable {o : Nat → Tag} {q : Nat} {w : World} {b : Nat} {m : PM} {sv : Nat → Value} {rv : Value}

set_option maxRecDepth 100000 in
set_option maxHeartbeats 2000000 in
theorem spawned_any (h : FMem o q w b m sv rv) (n : Int) :
    Calls Try.prog 34 #[.pointer (some ⟨b, 0, none⟩), .int .i64 n] w fun r w' => r = .returned (.int .i64 (m.stE n 1)) ∧ FMem o q w' b (m.afterSpawned n) sv rv ∧ Fr q o w o w' := by
  have k1 : Hid (∀ w', FMem o q w' b m sv rv → Calls Try.prog 66 #[.pointer (some ⟨b, 0, none⟩), .int .i64 n, .int .i64 1] w' fun r w'' => r = .returned (.int .i64 (m.stE n 1)) ∧ w'' = w') := fun w' h' => checkState_any h' n 1
  unfold PM.afterSpawned
  by_cases he : m.stE n 1 = 0
  · obtain ⟨k, hk, rfl, -⟩ := PM.stE_zero he
    rw [he] at k1
    rw [he]
    simp only [beq_self_eq_true, cond_true, Int.toNat_natCast]
    clear he
    have hkI : (k : Int) < 6 := by omega
    obtain ⟨-, c1, -⟩ := h.slotc hk
    unfold PM.spawned
    cases ho : (m.slot k).old
    · rw [ho] at c1
      simp only [cond_false]
      clear ho
      go_enter Try.func34, Try.ntmps34
      go_wp2_with fail
      refine (k1.out _ h).mono ?_
      rintro e w1 ⟨rfl, rfl⟩
      go_wp2_with fail
      refine (becomes_any h k hk 2).mono ?_
      rintro e w2 ⟨rfl, hm2, fr2⟩
      clear c1
      go_wp2_with fail
      refine (settle_any hm2).mono ?_
      rintro e w3 ⟨rfl, hm3, fr3⟩
      go_wp2
      go_ret
      exact ⟨rfl, hm3, fr2.trans fr3⟩
    · rw [ho] at c1
      simp only [cond_true]
      clear ho
      go_enter Try.func34, Try.ntmps34
      go_wp2_with fail
      refine (k1.out _ h).mono ?_
      rintro e w1 ⟨rfl, rfl⟩
      go_wp2_with fail
      refine (kill_any h k hk).mono ?_
      rintro e w2 ⟨rfl, hm2, fr2⟩
      clear c1
      go_wp2_with fail
      refine (settle_any hm2).mono ?_
      rintro e w3 ⟨rfl, hm3, fr3⟩
      go_wp2
      go_ret
      exact ⟨rfl, hm3, fr2.trans fr3⟩
  · have he2 : (m.stE n 1 == 0) = false := by simpa using he
    simp only [he2, cond_false]
    generalize m.stE n 1 = E at *
    go_enter Try.func34, Try.ntmps34
    go_wp2_with fail
    refine (k1.out _ h).mono ?_
    rintro e w1 ⟨rfl, rfl⟩
    go_wp2
    go_ret
    exact ⟨rfl, h, Fr.refl h.clean⟩

set_option maxRecDepth 100000 in
set_option maxHeartbeats 2000000 in
theorem output_any (h : FMem o q w b m sv rv) (hq : q ≠ 0) (n : Int) (s : ByteArray) (hs : s.size ≤ 1000000000) {S : Nat} (hS : S ≤ 100000000000) (hsent : ∀ c, c < 4 → (m.con c).sent.length ≤ S) (hf : ∀ k, k < 6 → m.fair k) :
    Calls Try.prog 52 #[.pointer (some ⟨b, 0, none⟩), .int .i64 n, .string s] w fun r w' => r = .returned (.int .i64 (m.stE n 3)) ∧ ∃ o' sv', FMem o' q w' b (m.afterOutput n s) sv' rv ∧ Fr q o w o' w' := by
  have k1 : Hid (∀ w', FMem o q w' b m sv rv → Calls Try.prog 66 #[.pointer (some ⟨b, 0, none⟩), .int .i64 n, .int .i64 3] w' fun r w'' => r = .returned (.int .i64 (m.stE n 3)) ∧ w'' = w') := fun w' h' => checkState_any h' n 3
  unfold PM.afterOutput
  by_cases he : m.stE n 3 = 0
  · obtain ⟨k, hk, rfl, -⟩ := PM.stE_zero he
    rw [he] at k1
    rw [he]
    simp only [beq_self_eq_true, cond_true, Int.toNat_natCast]
    clear he
    have hkI : (k : Int) < 6 := by omega
    unfold PM.outputs
    rcases hf k hk with e | ⟨c, hc, e⟩
    · have hb : ((m.slot k).conn != -1) = false := by rw [e]; rfl
      have kk : Hid (∀ w', FMem o q w' b m sv rv → Calls Try.prog 76 #[.pointer (some ⟨b, 21 + k * 7, none⟩)] w' fun r w'' => r = .returned (.tuple #[.agg #[.int .i64 (-1), .int .i64 (m.slot k).id], .bool false]) ∧ Below w'.heap.size w' w'') := fun w' h' => by have := key_any h' k hk; rw [hb, e] at this; exact this
      rw [hb]
      simp only [cond_false]
      clear hb e
      go_enter Try.func52, Try.ntmps52
      go_wp2_with fail
      refine (k1.out _ h).mono ?_
      rintro e w1 ⟨rfl, rfl⟩
      go_wp2_with fail
      refine (kk.out _ h).mono ?_
      rintro e w2 ⟨rfl, hb2⟩
      have hm2 := h.below hb2
      have hb3 : Below w2.heap.size w2 (w2.alloc (.cells #[.int .i64 (-1), .int .i64 (m.slot k).id] 109)) := (Below.refl _ _).alloc (Nat.le_refl _) _
      go_wp2_with fail
      refine (settle_any (hm2.below hb3)).mono ?_
      rintro e w3 ⟨rfl, hm3, fr3⟩
      go_wp2
      go_ret
      exact ⟨rfl, o, sv, hm3, ((Fr.of_below (q := q) h.clean hb2).below hb3).trans fr3⟩
    · have hb : ((m.slot k).conn != -1) = true := by rw [e]; simp
      have kk : Hid (∀ w', FMem o q w' b m sv rv → Calls Try.prog 76 #[.pointer (some ⟨b, 21 + k * 7, none⟩)] w' fun r w'' => r = .returned (.tuple #[.agg #[.int .i64 (c : Nat), .int .i64 (m.slot k).id], .bool true]) ∧ Below w'.heap.size w' w'') := fun w' h' => by have := key_any h' k hk; rw [hb, e] at this; exact this
      rw [hb, e]
      simp only [cond_true, Int.toNat_natCast]
      clear hb e
      go_enter Try.func52, Try.ntmps52
      go_wp2_with fail
      refine (k1.out _ h).mono ?_
      rintro e w1 ⟨rfl, rfl⟩
      go_wp2_with fail
      refine (kk.out _ h).mono ?_
      rintro e w2 ⟨rfl, hb2⟩
      have hm2 := h.below hb2
      have hb3 : Below w2.heap.size w2 (w2.alloc (.cells #[.int .i64 c, .int .i64 (m.slot k).id] 109)) := (Below.refl _ _).alloc (Nat.le_refl _) _
      go_wp2_with fail
      refine (sendOut_any (hm2.below hb3) hq c hc (m.slot k).id s hs hS (hsent c hc)).mono ?_
      rintro e w3 ⟨rfl, o3, sv3, hm3, fr3⟩
      go_wp2_with fail
      refine (settle_any hm3).mono ?_
      rintro e w4 ⟨rfl, hm4, fr4⟩
      go_wp2
      go_ret
      exact ⟨rfl, o3, sv3, hm4, (((Fr.of_below (q := q) h.clean hb2).below hb3).trans fr3).trans fr4⟩
  · have he2 : (m.stE n 3 == 0) = false := by simpa using he
    simp only [he2, cond_false]
    generalize m.stE n 3 = E at *
    go_enter Try.func52, Try.ntmps52
    go_wp2_with fail
    refine (k1.out _ h).mono ?_
    rintro e w1 ⟨rfl, rfl⟩
    go_wp2
    go_ret
    exact ⟨rfl, o, sv, h, Fr.refl h.clean⟩

set_option maxRecDepth 100000 in
set_option maxHeartbeats 2000000 in
theorem finished_any (h : FMem o q w b m sv rv) (hq : q ≠ 0) (n : Int) (hsent : ∀ c, c < 4 → (m.con c).sent.length ≤ 1000000000000) (hmax : m.req.length ≤ 1000000000000) (hf : ∀ k, k < 6 → m.fair k) :
    Calls Try.prog 53 #[.pointer (some ⟨b, 0, none⟩), .int .i64 n] w fun r w' => r = .returned (.int .i64 (m.stE n 3)) ∧ ∃ o' sv' rv', FMem o' q w' b (m.afterFinished n) sv' rv' ∧ Fr q o w o' w' := by
  have k1 : Hid (∀ w', FMem o q w' b m sv rv → Calls Try.prog 66 #[.pointer (some ⟨b, 0, none⟩), .int .i64 n, .int .i64 3] w' fun r w'' => r = .returned (.int .i64 (m.stE n 3)) ∧ w'' = w') := fun w' h' => checkState_any h' n 3
  unfold PM.afterFinished
  by_cases he : m.stE n 3 = 0
  · obtain ⟨k, hk, rfl, -⟩ := PM.stE_zero he
    rw [he] at k1
    rw [he]
    simp only [beq_self_eq_true, cond_true, Int.toNat_natCast]
    clear he
    have hkI : (k : Int) < 6 := by omega
    unfold PM.finished
    have ke : Hid (∀ w', FMem o q w' b m sv rv → Calls Try.prog 78 #[.pointer (some ⟨b, 0, none⟩), .int .i64 (k : Nat), .int .i64 0] w' fun r w'' => r = .returned (.tuple #[]) ∧ ∃ o' sv' rv', FMem o' q w'' b (m.endKeyOf k 0) sv' rv' ∧ Fr q o w' o' w'') := fun w' h' => endKeyOf_any h' hq k hk (hf k hk) 0 (by omega) (by omega) hsent hmax
    generalize m.endKeyOf k 0 = M at *
    unfold PM.retires
    have kg : Hid (∀ o' sv' rv' w', FMem o' q w' b M sv' rv' → Calls Try.prog 79 #[.pointer (some ⟨b, 0, none⟩), .int .i64 (k : Nat)] w' fun r w'' => r = .returned (.bool (M.mustGo k)) ∧ Below w'.heap.size w' w'') := fun o' sv' rv' w' h' => mustGo_any h' k hk
    cases hg : M.mustGo k
    · rw [hg] at kg
      simp only [cond_false]
      clear hg
      go_enter Try.func53, Try.ntmps53
      go_wp2_with fail
      refine (k1.out _ h).mono ?_
      rintro e w1 ⟨rfl, rfl⟩
      go_wp2_with fail
      refine (ke.out _ h).mono ?_
      rintro e w2 ⟨rfl, o2, sv2, rv2, hm2, fr2⟩
      go_wp2_with fail
      refine (kg.out _ _ _ _ hm2).mono ?_
      rintro e w3 ⟨rfl, hb3⟩
      have hm3 := hm2.below hb3
      go_wp2_with fail
      refine (becomes_any hm3 k hk 2).mono ?_
      rintro e w4 ⟨rfl, hm4, fr4⟩
      go_wp2_with fail
      refine (settle_any hm4).mono ?_
      rintro e w5 ⟨rfl, hm5, fr5⟩
      go_wp2
      go_ret
      exact ⟨rfl, o2, sv2, rv2, hm5, ((fr2.below hb3).trans fr4).trans fr5⟩
    · rw [hg] at kg
      simp only [cond_true]
      clear hg
      go_enter Try.func53, Try.ntmps53
      go_wp2_with fail
      refine (k1.out _ h).mono ?_
      rintro e w1 ⟨rfl, rfl⟩
      go_wp2_with fail
      refine (ke.out _ h).mono ?_
      rintro e w2 ⟨rfl, o2, sv2, rv2, hm2, fr2⟩
      go_wp2_with fail
      refine (kg.out _ _ _ _ hm2).mono ?_
      rintro e w3 ⟨rfl, hb3⟩
      have hm3 := hm2.below hb3
      go_wp2_with fail
      refine (kill_any hm3 k hk).mono ?_
      rintro e w4 ⟨rfl, hm4, fr4⟩
      go_wp2_with fail
      refine (settle_any hm4).mono ?_
      rintro e w5 ⟨rfl, hm5, fr5⟩
      go_wp2
      go_ret
      exact ⟨rfl, o2, sv2, rv2, hm5, ((fr2.below hb3).trans fr4).trans fr5⟩
  · have he2 : (m.stE n 3 == 0) = false := by simpa using he
    simp only [he2, cond_false]
    generalize m.stE n 3 = E at *
    go_enter Try.func53, Try.ntmps53
    go_wp2_with fail
    refine (k1.out _ h).mono ?_
    rintro e w1 ⟨rfl, rfl⟩
    go_wp2
    go_ret
    exact ⟨rfl, o, sv, rv, h, Fr.refl h.clean⟩

set_option maxRecDepth 100000 in
set_option maxHeartbeats 4000000 in
theorem died_any (h : FMem o q w b m sv rv) (hq : q ≠ 0) (n : Int) (hsent : ∀ c, c < 4 → (m.con c).sent.length ≤ 1000000000000) (hmax : m.req.length ≤ 1000000000000) (hf : ∀ k, k < 6 → m.fair k) :
    Calls Try.prog 54 #[.pointer (some ⟨b, 0, none⟩), .int .i64 n] w fun r w' => r = .returned (.int .i64 (m.diedE n)) ∧ ∃ o' sv' rv', FMem o' q w' b (m.afterDied n) sv' rv' ∧ Fr q o w o' w' := by
  unfold PM.afterDied PM.diedE
  rcases isS_cases n with h0 | ⟨h0, k, hk, rfl⟩
  · simp only [h0, cond_false]
    go_enter Try.func54, Try.ntmps54
    go_wp2_with fail
    refine (isSlot_any _ _).mono ?_
    rintro e w1 ⟨rfl, rfl⟩
    rw [h0]
    go_wp2
    go_ret
    exact ⟨rfl, o, sv, rv, h, Fr.refl h.clean⟩
  · obtain ⟨c0, -⟩ := h.slotc hk
    have hkI : (k : Int) < 6 := by omega
    simp only [h0, cond_true, Int.toNat_natCast]
    by_cases hs : (m.slot k).st = 0
    · rw [hs] at c0
      simp only [hs, beq_self_eq_true, cond_true]
      clear hs
      go_enter Try.func54, Try.ntmps54
      go_wp2_with fail
      refine (isSlot_any _ _).mono ?_
      rintro e w1 ⟨rfl, rfl⟩
      rw [h0]
      go_wp2
      go_ret
      exact ⟨rfl, o, sv, rv, h, Fr.refl h.clean⟩
    · have hs2 : ((m.slot k).st == 0) = false := by simpa using hs
      simp only [hs2, cond_false, beq_self_eq_true, cond_true]
      unfold PM.died
      have ke : Hid (∀ w', FMem o q w' b m sv rv → Calls Try.prog 78 #[.pointer (some ⟨b, 0, none⟩), .int .i64 (k : Nat), .int .i64 1] w' fun r w'' => r = .returned (.tuple #[]) ∧ ∃ o' sv' rv', FMem o' q w'' b (m.endKeyOf k 1) sv' rv' ∧ Fr q o w' o' w'') := fun w' h' => endKeyOf_any h' hq k hk (hf k hk) 1 (by omega) (by omega) hsent hmax
      generalize m.endKeyOf k 1 = M at *
      unfold PM.empties
      generalize (m.slot k).st = st0 at *
      go_enter Try.func54, Try.ntmps54
      go_wp2_with fail
      refine (isSlot_any _ _).mono ?_
      rintro e w1 ⟨rfl, rfl⟩
      rw [h0]
      go_wp2_with fail
      refine (ke.out _ h).mono ?_
      rintro e w2 ⟨rfl, o2, sv2, rv2, hm2, fr2⟩
      clear c0 ke
      go_wp2_with fail
      have hmd := hm2.below (Below.refl _ _).drew
      go_region_held3 (fun w' => True) (trivial) (first | (go_at_call 74; refine (newPlace_any _ _).mono ?_; rintro e w3 ⟨rfl, hb3⟩; have hm3 := hmd.below hb3; obtain ⟨d0, d1, d2, d3, d4, d5, d6⟩ := hm3.slotc hk; have fz := hm3.frozen))
      have hm4 := hm3.putSlot hk (newSlot 0)
      have fr4 := hm3.fr_put hm4 (by simp [World.setCell]) (by simp [World.setCell]) (by simp [World.setCell]) (by simp [World.setCell]) (by intro g hg; repeat rw [Below.heap_setCell _ _ _ g (by simpa using hg)])
      have fr3 : Fr q o w1 o2 w3 := fr2.trans ((Fr.of_below hm2.clean (Below.refl _ _).drew).trans (Fr.of_below hmd.clean hb3))
      go_wp2_with fail
      refine (settle_any hm4).mono ?_
      rintro e w5 ⟨rfl, hm5, fr5⟩
      clear d0 d1 d2 d3 d4 d5 d6 fz
      go_wp2
      go_ret
      exact ⟨rfl, o2, sv2, rv2, hm5, (fr3.trans fr4).trans fr5⟩

end
end Go.Proofs.Ytlafkpaljibonaa

namespace Go.Proofs.Ytlafkpaljibonaa
open Go.RowKit

/-- Is the slot's lease too old? -/
def PM.lateAt (m : PM) (k : Nat) : Bool := ((m.slot k).st == 3) && decide (m.set.tmo ≤ wrap64 (m.time - (m.slot k).since))
def PM.lateTo (m : PM) : Nat → PM
  | 0 => m
  | k + 1 => cond ((m.lateTo k).lateAt k) (((m.lateTo k).endKeyOf k 6).kill k) (m.lateTo k)

section
variable {m : PM} {R S : Nat}

theorem PM.fair_drop (h : ∀ j, j < 6 → m.fair j) (c i : Int) : ∀ j, j < 6 → (m.drop c i).fair j := by
  intro j hj
  unfold PM.drop
  cases m.slotOf c i with
  | none => exact h j hj
  | some a =>
    unfold PM.fair
    by_cases e : j = a
    · subst e; left; simp [PM.forgetAt, PSlot.forget]
    · simp only [PM.forgetAt, upd_other _ _ e]; exact h j hj

theorem PM.fair_endKeyOf (h : ∀ j, j < 6 → m.fair j) (k : Nat) (st : Int) : ∀ j, j < 6 → (m.endKeyOf k st).fair j := by
  unfold PM.endKeyOf
  cases ((m.slot k).conn != -1)
  · exact h
  · exact PM.fair_drop (m := m.sendB (m.slot k).conn.toNat (encB 3 (m.slot k).id (strOfNums [st]))) h _ _

theorem PM.fair_kill (h : ∀ j, j < 6 → m.fair j) (k : Nat) : ∀ j, j < 6 → (m.kill k).fair j := by
  intro j hj
  unfold PM.fair
  by_cases e : j = k
  · subst e; left; simp [PM.kill, PM.becomesAt, PSlot.becomes]
  · simp only [PM.kill, PM.becomesAt, upd_other _ _ e]; exact h j hj

theorem PM.small.endKeyOf (h : m.small R S) (k : Nat) (st : Int) : (m.endKeyOf k st).small R (S + 208) := by
  unfold PM.endKeyOf
  cases ((m.slot k).conn != -1)
  · exact h.mono (Nat.le_refl _) (by omega)
  · exact h.endKey _ _ _

theorem PM.small.kill (h : m.small R S) (k : Nat) : (m.kill k).small R S := h.of_eq rfl rfl

theorem PM.endKeyOf_set (m : PM) (k : Nat) (st : Int) : (m.endKeyOf k st).set = m.set ∧ (m.endKeyOf k st).time = m.time := by
  unfold PM.endKeyOf PM.endKey PM.drop
  cases ((m.slot k).conn != -1)
  · exact ⟨rfl, rfl⟩
  · simp only [cond_true]
    cases (m.sendB (m.slot k).conn.toNat (encB 3 (m.slot k).id (strOfNums [st]))).slotOf ((m.slot k).conn.toNat : Nat) (m.slot k).id <;> exact ⟨rfl, rfl⟩

theorem PM.lateTo_kept (hs : m.small R S) (hf : ∀ j, j < 6 → m.fair j) : ∀ k, (∀ j, j < 6 → (m.lateTo k).fair j) ∧ (m.lateTo k).small R (S + 208 * k) ∧ (m.lateTo k).set = m.set ∧ (m.lateTo k).time = m.time
  | 0 => ⟨hf, hs, rfl, rfl⟩
  | k + 1 => by
    obtain ⟨a1, a2, a3, a4⟩ := PM.lateTo_kept hs hf k
    unfold PM.lateTo
    cases (m.lateTo k).lateAt k
    · exact ⟨a1, a2.mono (Nat.le_refl _) (by omega), a3, a4⟩
    · obtain ⟨e1, e2⟩ := (m.lateTo k).endKeyOf_set k 6
      exact ⟨PM.fair_kill (PM.fair_endKeyOf a1 k 6) k, ((a2.endKeyOf k 6).kill k).mono (Nat.le_refl _) (by omega), e1.trans a3, e2.trans a4⟩
end

section
variable {o : Nat → Tag} {q : Nat} {w : World} {b : Nat} {m : PM} {sv : Nat → Value} {rv : Value}

theorem FMem.tmoc (h : FMem o q w b m sv rv) : w.cell? ⟨b, 5, none⟩ = some (.int .i64 m.set.tmo) := h.blk.cell rfl
theorem FMem.mnc (h : FMem o q w b m sv rv) : w.cell? ⟨b, 2, none⟩ = some (.int .i64 m.set.mn) := h.blk.cell rfl
theorem FMem.mxc (h : FMem o q w b m sv rv) : w.cell? ⟨b, 3, none⟩ = some (.int .i64 m.set.mx) := h.blk.cell rfl

set_option maxRecDepth 100000 in
set_option maxHeartbeats 4000000 in
theorem killLate_any (h : FMem o q w b m sv rv) (hq : q ≠ 0) {R S : Nat} (hsm : m.small R S) (hR : R ≤ 1000000000000) (hS : S ≤ 100000000000) (hf : ∀ k, k < 6 → m.fair k) :
    Calls Try.prog 63 #[.pointer (some ⟨b, 0, none⟩)] w fun r w' => r = .returned (.tuple #[]) ∧ ∃ o' sv' rv', FMem o' q w' b (m.lateTo 6) sv' rv' ∧ Fr q o w o' w' := by
  have hkept := PM.lateTo_kept hsm hf
  go_enter Try.func63, Try.ntmps63
  go_wp2
  go_loopw [4] (fun i w' => ∃ k : Nat, k ≤ 6 ∧ i = .int .i64 k ∧ ∃ o' sv' rv', FMem o' q w' b (m.lateTo k) sv' rv' ∧ Fr q o w o' w') (fun i _ => 6 - (intOf i).toNat)
  case atStart => exact ⟨0, by omega, rfl, o, sv, rv, h, Fr.refl h.clean⟩
  case round =>
    obtain ⟨k, hk, rfl, o1, sv1, rv1, hm, hfr⟩ := hrel
    clear h
    by_cases hlt : k < 6
    · have hkI : (k : Int) < 6 := by omega
      have HS : Hid (m.lateTo (k + 1) = cond ((m.lateTo k).lateAt k) (((m.lateTo k).endKeyOf k 6).kill k) (m.lateTo k)) := rfl
      obtain ⟨hf1, hs1, -, -⟩ := hkept k
      have hsn : ∀ c, c < 4 → ((m.lateTo k).con c).sent.length ≤ 1000000000000 := fun c hc => by have := hs1.sent c hc; omega
      have hrn : (m.lateTo k).req.length ≤ 1000000000000 := by have := hs1.req; omega
      clear hkept hs1
      generalize m.lateTo k = M at *
      obtain ⟨c0, c1, c2, c3, c4, c5, -⟩ := hm.slotc hlt
      have hb0 : ∀ ob, Below wr.heap.size wr (wr.alloc ob) := fun ob => (Below.refl _ _).alloc (Nat.le_refl _) ob
      have hT := fun ob => (hm.below (hb0 ob)).timec
      have hO := fun ob => (hm.below (hb0 ob)).tmoc
      have x0 := Blk.made wr 58 [.int .i64 (M.slot k).st, .bool (M.slot k).old, .int .i64 (M.slot k).served, .int .i64 (M.slot k).since, .int .i64 (M.slot k).conn, .int .i64 (M.slot k).id]
      have ke : Hid (∀ w', FMem o1 q w' b M sv1 rv1 → Calls Try.prog 78 #[.pointer (some ⟨b, 0, none⟩), .int .i64 (k : Nat), .int .i64 6] w' fun r w'' => r = .returned (.tuple #[]) ∧ ∃ o' sv' rv', FMem o' q w'' b (M.endKeyOf k 6) sv' rv' ∧ Fr q o1 w' o' w'') := fun w' h' => endKeyOf_any h' hq k hlt (hf1 k hlt) 6 (by omega) (by omega) hsn hrn
      unfold PM.lateAt at HS
      generalize M.endKeyOf k 6 = E at *
      have hmA := fun ob => hm.below (hb0 ob)
      have frA := fun ob => hfr.below (hb0 ob)
      generalize (M.slot k).st = s0 at *
      generalize (M.slot k).old = old at *
      generalize (M.slot k).served = srv at *
      generalize (M.slot k).since = snc at *
      generalize (M.slot k).conn = cn at *
      generalize (M.slot k).id = id at *
      have y0 := x0.cell (k := 0) (u := .int .i64 s0) rfl
      have y3 := x0.cell (k := 3) (u := .int .i64 snc) rfl
      by_cases h3 : s0 = 3
      · subst h3
        by_cases h5 : M.set.tmo ≤ wrap64 (M.time - snc)
        · have g5 : decide (M.set.tmo ≤ wrap64 (M.time - snc)) = true := by simpa using h5
          have g5' : decide (wrap64 (M.time - snc) ≥ M.set.tmo) = true := g5
          have HS2 : Hid (m.lateTo (k + 1) = E.kill k) := by show _ = _; rw [HS.out, g5]; rfl
          clear HS
          go_wp2_with fail
          go_quiet (fail)
          have hmq := hm.below (below_dN (m := nq) (hb0 (.cells #[.int .i64 3, .bool old, .int .i64 srv, .int .i64 snc, .int .i64 cn, .int .i64 id] 58)))
          have frq := hfr.below (below_dN (m := nq) (hb0 (.cells #[.int .i64 3, .bool old, .int .i64 srv, .int .i64 snc, .int .i64 cn, .int .i64 id] 58)))
          go_wp2_with fail
          refine (ke.out _ hmq).mono ?_
          rintro e w5 ⟨rfl, o5, sv5, rv5, hm5, fr5⟩
          clear c0 c1 c2 c3 c4 c5 hT hO y0 y3
          go_wp2_with fail
          refine (kill_any hm5 k hlt).mono ?_
          rintro e w6 ⟨rfl, hm6, fr6⟩
          go_wp2
          exact ⟨⟨k + 1, by omega, by go_num, o5, sv5, rv5, by rw [HS2.out]; exact hm6, (frq.trans fr5).trans fr6⟩, by simp [intOf]; omega⟩
        · have g5 : decide (M.set.tmo ≤ wrap64 (M.time - snc)) = false := by simpa using h5
          have g5' : decide (wrap64 (M.time - snc) ≥ M.set.tmo) = false := g5
          have HS2 : Hid (m.lateTo (k + 1) = M) := by show _ = _; rw [HS.out, g5]; rfl
          clear HS
          go_wp2_with fail
          go_quiet (fail)
          go_wp2
          exact ⟨⟨k + 1, by omega, by go_num, o1, sv1, rv1, by rw [HS2.out]; exact hm.below (below_dN (hb0 _)), hfr.below (below_dN (hb0 _))⟩, by simp [intOf]; omega⟩
      · have g3 : (s0 == 3) = false := by simpa using h3
        have HS2 : Hid (m.lateTo (k + 1) = M) := by show _ = _; rw [HS.out, g3]; rfl
        clear HS
        go_wp2_with fail
        go_quiet (fail)
        go_wp2
        exact ⟨⟨k + 1, by omega, by go_num, o1, sv1, rv1, by rw [HS2.out]; exact hm.below (below_dN (hb0 _)), hfr.below (below_dN (hb0 _))⟩, by simp [intOf]; omega⟩
    · have : k = 6 := by omega
      subst this
      go_wp2
      exact bodyPost_end (v := .tuple #[]) (by simp [results, Try.results63, go_sem]) rfl ⟨rfl, o1, sv1, rv1, hm, hfr⟩

end
end Go.Proofs.Ytlafkpaljibonaa
