import Derived.Test.YtlafkpaljibonaaJ3
namespace Go.Proofs.Ytlafkpaljibonaa
open Go.RowKit

def PM.endKey (m : PM) (k : Nat) (i st : Int) : PM := (m.sendB k (encB 3 i (strOfNums [st]))).drop k i

section
variable {o : Nat → Tag} {q : Nat} {w : World} {b : Nat} {m : PM} {sv : Nat → Value} {rv : Value}

set_option maxRecDepth 100000 in
set_option maxHeartbeats 2000000 in
theorem end_any (h : FMem o q w b m sv rv) (hq : q ≠ 0) (k : Nat) (hk : k < 4) (i st : Int) (h0 : 0 ≤ st) (h1 : st ≤ 255) (hs : (m.con k).sent.length ≤ 1000000000000) (hmax : m.req.length ≤ 1000000000000) :
    Calls Try.prog 102 #[.pointer (some ⟨b, 0, none⟩), .agg #[.int .i64 k, .int .i64 i], .int .i64 st] w fun r w' => r = .returned (.tuple #[]) ∧ ∃ o' sv' rv', FMem o' q w' b (m.endKey k i st) sv' rv' ∧ Fr q o w o' w' := by
  have hcv := conv_lit (w.alloc (.cells #[.int .i64 k, .int .i64 i] 109)) (w.heap.size + 1) (by simp) 1 [st] #[.int .u8 st] rfl rfl (by omega)
  have x0 := Blk.made w 109 [.int .i64 k, .int .i64 i]
  have hb0 : Below w.heap.size w (w.alloc (.cells #[.int .i64 k, .int .i64 i] 109)) := (Below.refl _ _).alloc (Nat.le_refl _) _
  have hb1 : Below w.heap.size w ((w.alloc (.cells #[.int .i64 k, .int .i64 i] 109)).alloc (.cells #[.int .u8 st] 5)) := hb0.alloc (by simp) _
  have hst : st % 256 = st := by omega
  unfold PM.endKey
  go_enter Try.func102, Try.ntmps102
  go_wp2_with fail
  have x1 : Blk ((w.alloc (.cells #[.int .i64 k, .int .i64 i] 109)).alloc (.cells #[.int .u8 st] 5)) w.heap.size 109 [.int .i64 k, .int .i64 i] := x0.below ((Below.refl _ _).alloc (Nat.le_refl _) _)
  refine (send_any (h.below hb1) k hk 3 i (strOfNums [st]) hs).mono ?_
  rintro e w1 ⟨rfl, o1, sv1, hm1, fr1⟩
  have x2 : Blk w1 w.heap.size 109 [.int .i64 k, .int .i64 i] := x1.keep (fr1.block _ x1.lt (by rw [h.clean _ (Nat.le_refl _)]; exact fun e => hq e.symm))
  have frA := (Fr.of_below (q := q) h.clean hb1).trans fr1
  have y0 := x2.cell (k := 0) (u := .int .i64 k) rfl
  have y1 := x2.cell (k := 1) (u := .int .i64 i) rfl
  clear hcv x0 x1 x2 hb0 hb1 fr1
  go_wp2_with fail
  refine (drop_any hm1 k i hmax).mono ?_
  rintro e w2 ⟨rfl, o2, rv2, hm2, fr2⟩
  go_wp2
  exact bodyPost_end (v := .tuple #[]) (by simp [results, Try.results102, go_sem]) rfl ⟨rfl, o2, sv1, rv2, hm2, frA.trans fr2⟩

/-- A slot that works at nothing from now on. -/
def PSlot.becomes (s : PSlot) (st : Int) : PSlot := { s with st := st, since := 0, job := ⟨#[]⟩, conn := -1, id := 0 }
def PSlot.killed (s : PSlot) : PSlot := s.becomes 4
def PM.becomesAt (m : PM) (k : Nat) (st : Int) : PM := { m with slot := upd m.slot k ((m.slot k).becomes st) }
def PM.kill (m : PM) (k : Nat) : PM := m.becomesAt k 4
def PSlot.half (s : PSlot) (st : Int) : PSlot := { s with st := st, since := 0, job := ⟨#[]⟩ }

theorem fcells_half (m : PM) (sv : Nat → Value) (rv : Value) (k : Nat) (hk : k < 6) (st : Int) :
    (((fcells m sv rv).set (21 + k * 7) (.int .i64 st)).set (21 + k * 7 + 3) (.int .i64 0)).set (21 + k * 7 + 6) (.string ⟨#[]⟩) = fcells { m with slot := upd m.slot k ((m.slot k).half st) } sv rv := by
  rcases k with _ | _ | _ | _ | _ | _ | k <;> first | rfl | omega

theorem becomes_two (m : PM) (k : Nat) (st : Int) : { m with slot := upd (upd m.slot k ((m.slot k).half st)) k ((upd m.slot k ((m.slot k).half st)) k).forget } = m.becomesAt k st := by
  simp only [PM.becomesAt, upd_same, PM.mk.injEq, true_and]
  funext i
  simp only [upd]
  split <;> rfl

set_option maxRecDepth 100000 in
set_option maxHeartbeats 2000000 in
theorem becomes_any (h : FMem o q w b m sv rv) (k : Nat) (hk : k < 6) (st : Int) :
    Calls Try.prog 68 #[.pointer (some ⟨b, 21 + k * 7, none⟩), .int .i64 st] w fun r w' => r = .returned (.tuple #[]) ∧ FMem o q w' b (m.becomesAt k st) sv rv ∧ Fr q o w o w' := by
  obtain ⟨c0, -, -, c3, -, -, c6⟩ := h.slotc hk
  have fz := h.frozen
  have hoth : ∀ x, x ≠ b → ((((w.setCell ⟨b, 21 + k * 7, none⟩ (.int .i64 st)).setCell ⟨b, 21 + k * 7 + 3, none⟩ (.int .i64 0)).setCell ⟨b, 21 + k * 7 + 6, none⟩ (.string ⟨#[]⟩)).heap[x]?) = w.heap[x]? := by
    intro x hx
    repeat rw [Below.heap_setCell _ _ _ x (by simpa using hx)]
  have hbk := ((h.blk.set (21 + k * 7) (.int .i64 st)).set (21 + k * 7 + 3) (.int .i64 0)).set (21 + k * 7 + 6) (.string ⟨#[]⟩)
  rw [fcells_half m sv rv k hk] at hbk
  have hm1 := h.put hbk (by simp [World.setCell]) hoth (fun _ _ => rfl) rfl
  have fr1 := h.fr_put hm1 (by simp [World.setCell]) (by simp [World.setCell]) (by simp [World.setCell]) (by simp [World.setCell]) hoth
  rw [← becomes_two]
  clear hoth hbk
  go_enter Try.func68, Try.ntmps68
  go_wp2_with fail
  refine (forgetKey_any hm1 k hk).mono ?_
  rintro e w1 ⟨rfl, hm2, fr2⟩
  go_wp2
  exact bodyPost_end (v := .tuple #[]) (by simp [results, Try.results68, go_sem]) rfl ⟨rfl, hm2, fr1.trans fr2⟩

set_option maxRecDepth 100000 in
set_option maxHeartbeats 2000000 in
theorem kill_any (h : FMem o q w b m sv rv) (k : Nat) (hk : k < 6) :
    Calls Try.prog 67 #[.pointer (some ⟨b, 0, none⟩), .int .i64 k] w fun r w' => r = .returned (.tuple #[]) ∧ FMem o q w' b (m.kill k) sv rv ∧ Fr q o w o w' := by
  unfold PM.kill
  go_enter Try.func67, Try.ntmps67
  go_wp2_with fail
  refine (becomes_any h k hk 4).mono ?_
  rintro e w1 ⟨rfl, hm2, fr2⟩
  go_wp2
  exact bodyPost_end (v := .tuple #[]) (by simp [results, Try.results67, go_sem]) rfl ⟨rfl, hm2, fr2⟩

def PM.idleAt (m : PM) (k : Nat) : Nat → Bool
  | 0 => false
  | n + 1 => cond ((m.slot k).st == 2) true (m.idleAt (k + 1) n)
def PM.room (m : PM) : Bool := m.idleAt 0 6 || decide ((m.waits.length : Int) < m.set.bl)

theorem PM.idleAt_in (m : PM) : ∀ n k, m.idleAt k n = decide (0 < m.inTo 2 (k + n) - m.inTo 2 k)
  | 0, k => by simp [PM.idleAt]
  | n + 1, k => by
    have ih := PM.idleAt_in m n (k + 1)
    unfold PM.idleAt
    rw [ih, show k + 1 + n = k + (n + 1) from by omega]
    have e : m.inTo 2 (k + 1) = m.inTo 2 k + (if (m.slot k).st == 2 then 1 else 0) := rfl
    have hm : ∀ n, m.inTo 2 (k + 1) ≤ m.inTo 2 (k + 1 + n) := by
      intro n
      induction n with
      | zero => exact Int.le_refl _
      | succ n ih =>
        have e : m.inTo 2 (k + 1 + (n + 1)) = m.inTo 2 (k + 1 + n) + (if (m.slot (k + 1 + n)).st == 2 then 1 else 0) := rfl
        rw [e]
        split <;> omega
    have hm := hm n
    rw [show k + 1 + n = k + (n + 1) from by omega] at hm
    rw [e] at hm ⊢
    revert hm
    cases ((m.slot k).st == 2) <;> intro hm
    · simp only [Bool.false_eq_true, if_false, Int.add_zero, cond_false]
    · have e1 : (if true = true then (1 : Int) else 0) = 1 := rfl
      rw [e1] at hm
      symm
      rw [cond_true, decide_eq_true_eq]
      omega

set_option maxRecDepth 100000 in
set_option maxHeartbeats 2000000 in
theorem hasRoom_any (h : FMem o q w b m sv rv) (hmax : m.req.length ≤ 1000000000000) :
    Calls Try.prog 113 #[.pointer (some ⟨b, 0, none⟩)] w fun r w' => r = .returned (.bool m.room) ∧ Below w.heap.size w w' := by
  have kc : Hid (∀ w', FMem o q w' b m sv rv → Calls Try.prog 89 #[.pointer (some ⟨b, 0, none⟩), .int .i64 2] w' fun r w'' => r = .returned (.int .i64 (m.inTo 2 6)) ∧ Below w'.heap.size w' w'') := fun w' h' => inState_any h' 2
  have kb : Hid (∀ w', FMem o q w' b m sv rv → Calls Try.prog 31 #[.pointer (some ⟨b, 0, none⟩)] w' fun r w'' => ∃ v, r = .returned v ∧ w''.ownsRow w'.heap.size 109 2 v m.waits.length (keyCells m.waits) ∧ Below w'.heap.size w' w'') := fun w' h' => backlog_any h' hmax
  have HI : Hid (m.idleAt 0 6 = decide (0 < m.inTo 2 6)) := by show _ = _; rw [PM.idleAt_in m 6 0]; simp [PM.inTo]
  unfold PM.room
  rw [HI.out]
  clear HI
  generalize m.inTo 2 6 = u at *
  by_cases hu : 0 < u
  · go_enter Try.func113, Try.ntmps113
    go_wp2_with fail
    refine (kc.out _ h).mono ?_
    rintro e w1 ⟨rfl, hb1⟩
    have hm1 := h.below hb1
    go_wp2_with fail
    refine (kb.out _ hm1).mono ?_
    rintro e w2 ⟨v, rfl, own, hb2⟩
    obtain ⟨av, cv, hv, hln, -⟩ := own_slice own
    subst hv
    go_wp2
    go_ret
    exact ⟨by simp [hu], hb1.trans (hb2.mono hb1.size)⟩
  · go_enter Try.func113, Try.ntmps113
    go_wp2_with fail
    refine (kc.out _ h).mono ?_
    rintro e w1 ⟨rfl, hb1⟩
    have hm1 := h.below hb1
    go_wp2_with fail
    refine (kb.out _ hm1).mono ?_
    rintro e w2 ⟨v, rfl, own, hb2⟩
    obtain ⟨av, cv, hv, hln, -⟩ := own_slice own
    subst hv
    have c6 := (hm1.below hb2).blc
    go_wp2
    go_ret
    exact ⟨by simp, hb1.trans (hb2.mono hb1.size)⟩
end
end Go.Proofs.Ytlafkpaljibonaa

namespace Go.Proofs.Ytlafkpaljibonaa
open Go.RowKit

section
variable {P : Program} {ops : Array Oper} {Q : Exit → Act → World → Prop} {md : Region.Mode} {S : World → Prop}
/-- Two operations may come up now: each order is walked. -/
theorem two_at {i j : Nat} {oi oj : Oper} {tl tj : List Oper} {fuel : Nat} {listed : Array Bool} {a : Act} {w : World} (hi : ops.toList.drop i = oi :: tl) (hj : ops.toList.drop j = oj :: tj)
    (hr : Region.ready md ops listed = [i, j]) (hwi : Region.wanted oi (yielded ops a.tmps) = true) (hwj : Region.wanted oj (yielded ops a.tmps) = true)
    (h1 : ∀ K' : Act → World → Prop, Shut (∀ a w, S w → wpAnyH P md ops Q S fuel (listed.setIfInBounds i true) a w → K' a w) → Oper.wp P oi a w K' Q)
    (h2 : ∀ K' : Act → World → Prop, Shut (∀ a w, S w → wpAnyH P md ops Q S fuel (listed.setIfInBounds j true) a w → K' a w) → Oper.wp P oj a w K' Q) :
    wpAnyH P md ops Q S (fuel + 1) listed a w := by
  refine wpAnyH_ready hr (by simp) (AllReadyH.cons (at_of_drop hi) (fun K' hK => ?_) (AllReadyH.cons (at_of_drop hj) (fun K' hK => ?_) AllReadyH.nil))
  · rw [if_pos hwi]
    exact h1 K' (fun a w hS hW => hK.out a w hS (fun _ => hW))
  · rw [if_pos hwj]
    exact h2 K' (fun a w hS hW => hK.out a w hS (fun _ => hW))
end

section
variable {o : Nat → Tag} {q : Nat} {w : World} {b : Nat} {m : PM} {sv : Nat → Value} {rv : Value}

/-- One request more stands in the list. -/
theorem FMem.pushReq {w1 : World} (h : FMem o q w b m sv rv) (v : Value) (l : List Req) (own : w1.ownsRow 0 111 4 v l.length (reqCells l))
    (hg : w.grownBy w1 rv.ownBlock) (hat : rv.ownBlock = v.ownBlock ∨ v.ownBlock = some w.heap.size) :
    ∃ o', FMem o' q (w1.setCell ⟨b, 20, none⟩ v) b { m with req := l } sv v ∧ Fr q o w o' (w1.setCell ⟨b, 20, none⟩ v) := by
  have hbl := h.blk.lt
  have hlt := own.lt
  have hst := h.reqs.2
  let o' : Nat → Tag := fun g => if v.ownBlock = some g then (q, 6) else o g
  have oold : ∀ g, g < w.heap.size → o' g = o g := by
    intro g hgl
    by_cases e : v.ownBlock = some g
    · simp only [o', if_pos e]
      rcases hat with h1 | h1
      · rw [← h1] at e; exact (hst g e).symm
      · rw [h1] at e; simp at e; omega
    · simp only [o', if_neg e]
  have hsz : (w1.setCell ⟨b, 20, none⟩ v).heap.size = w1.heap.size := by simp [World.setCell]
  have hcl : Clean o' (w1.setCell ⟨b, 20, none⟩ v) := by
    intro g hgl
    rw [hsz] at hgl
    have e : ¬ v.ownBlock = some g := by intro e; have := (hlt g e).2; omega
    simp only [o', if_neg e]
    exact h.clean g (Nat.le_trans hg.size hgl)
  have hnb : some b ≠ rv.ownBlock := by intro e; have := hst b e.symm; rw [h.tag] at this; simp at this
  have hoth : ∀ g, g < w.heap.size → g ≠ b → some g ≠ rv.ownBlock → (w1.setCell ⟨b, 20, none⟩ v).heap[g]? = w.heap[g]? := by
    intro g hgl hne hn2
    rw [Below.heap_setCell _ _ _ g hne]; exact hg.block g hgl hn2
  have hvb : ∀ g, v.ownBlock = some g → g ≠ b := by
    intro g e
    rcases hat with h1 | h1
    · rw [← h1] at e; rintro rfl; exact hnb e.symm
    · rw [h1] at e; simp at e; omega
  refine ⟨o', ⟨hcl, (oold b hbl).trans h.tag, ?_, fun j hj => ?_, ?_, h.few⟩, ⟨hg.os, hg.tape, hg.output, by rw [hsz]; exact hg.size, hcl, oold, fun g hgl hq => hoth g hgl ?_ ?_⟩⟩
  · have b1 : Blk w1 b _ _ := h.blk.keep (hg.block b hbl hnb)
    exact b1.set 20 v
  · refine (h.sent j hj).keep oold fun g hgl ht => hoth g hgl ?_ ?_
    · rintro rfl; rw [h.tag] at ht; simp at ht; omega
    · intro e2; have := hst g e2.symm; rw [ht] at this; simp at this; omega
  · exact ⟨own_keepAt own (fun g hgv => Below.heap_setCell _ _ _ g (hvb g hgv)) (Nat.le_refl _), fun g hgv => by simp only [o', if_pos hgv]⟩
  · rintro rfl; rw [h.tag] at hq; exact hq rfl
  · intro e2; have := hst g e2.symm; rw [this] at hq; exact hq rfl

def newReq (c i : Int) : Req := ⟨c, i, 0, ⟨#[]⟩⟩
def PM.begin_ (m : PM) (k : Nat) (i : Int) (role : ByteArray) : PM :=
  cond (role.toList == [1]) (cond (decide ((m.keysOf k).length ≥ 4)) (m.endKey k i 2) { m with req := m.req ++ [newReq k i] }) (m.endKey k i 3)

set_option maxRecDepth 100000 in
set_option maxHeartbeats 4000000 in
theorem begin_any (h : FMem o q w b m sv rv) (hq : q ≠ 0) (k : Nat) (hk : k < 4) (i : Int) (role : ByteArray) (hs : (m.con k).sent.length ≤ 1000000000000) (hmax : m.req.length ≤ 100000000000) :
    Calls Try.prog 105 #[.pointer (some ⟨b, 0, none⟩), .agg #[.int .i64 k, .int .i64 i], .string role] w fun r w' => r = .returned (.tuple #[]) ∧ ∃ o' sv' rv', FMem o' q w' b (m.begin_ k i role) sv' rv' ∧ Fr q o w o' w' := by
  obtain ⟨i0, hi, hz0, hz1, hz2⟩ := info_parts infoReq
  unfold PM.begin_
  have x0 := Blk.made w 109 [.int .i64 k, .int .i64 i]
  have hb0 : Below w.heap.size w (w.alloc (.cells #[.int .i64 k, .int .i64 i] 109)) := (Below.refl _ _).alloc (Nat.le_refl _) _
  have hA := h.below hb0
  have frA := Fr.of_below (q := q) h.clean hb0
  have hkey : o w.heap.size = (0, 0) := h.clean _ (Nat.le_refl _)
  cases hrole : (role.toList == [1])
  rotate_left
  · simp only [cond_true]
    have kk : Hid (∀ w', FMem o q w' b m sv rv → Calls Try.prog 99 #[.pointer (some ⟨b, 0, none⟩), .int .i64 k] w' fun r w'' => ∃ v, r = .returned v ∧ w''.ownsRow w'.heap.size 109 2 v (m.keysOf k).length (keyCells (m.keysOf k)) ∧ Below w'.heap.size w' w'') := fun w' h' => keysOf_any h' k (by omega)
    generalize hL : m.keysOf k = L at *
    clear hL
    by_cases h4 : L.length ≥ 4
    · simp only [h4, decide_true, cond_true]
      go_enter Try.func105, Try.ntmps105
      go_wp2_with fail
      refine (kk.out _ hA).mono ?_
      rintro e w1 ⟨v, rfl, own, hb1⟩
      obtain ⟨av, cv, hv, hln, -⟩ := own_slice own
      subst hv
      have hm1 := hA.below hb1
      have x1 := x0.below hb1
      have y0 := x1.cell (k := 0) (u := .int .i64 k) rfl
      have y1 := x1.cell (k := 1) (u := .int .i64 i) rfl
      have fr1 := frA.below hb1
      clear own kk
      go_wp2_with fail
      refine (end_any hm1 hq k hk i 2 (by omega) (by omega) hs (by omega)).mono ?_
      rintro e w2 ⟨rfl, o2, sv2, rv2, hm2, fr2⟩
      go_wp2
      exact bodyPost_ret (v := .tuple #[]) (by simp [results, Try.results105, go_sem]) rfl ⟨rfl, o2, sv2, rv2, hm2, fr1.trans fr2⟩
    · simp only [h4, decide_false, cond_false]
      go_enter Try.func105, Try.ntmps105
      go_wp2_with fail
      refine (kk.out _ hA).mono ?_
      rintro e w1 ⟨v, rfl, own, hb1⟩
      obtain ⟨av, cv, hv, hln, -⟩ := own_slice own
      subst hv
      have hm1 := hA.below hb1
      have x1 := x0.below hb1
      have y0 := x1.cell (k := 0) (u := .int .i64 k) rfl
      have y1 := x1.cell (k := 1) (u := .int .i64 i) rfl
      have fr1 := frA.below hb1
      have hlt1 := x1.lt
      clear own kk hA frA hb0 x0 hb1
      go_wp2_with fail
      have hmd := hm1.below (Below.refl _ _).drew
      have frd := fr1.below (Below.refl _ _).drew
      have y2 := hmd.reqv
      have hform := hmd.reqs.form
      obtain ⟨ar, cr, hrv, -, -⟩ := hform
      have hrown := hmd.reqs.1
      have hrlt := hrown.lt
      subst hrv
      have hbn : b ≠ w.heap.size := by have := h.blk.lt; omega
      refine wp_region_noPanic ?_
      refine wp_region_held_drew (S := fun w' => w'.cell? ⟨w.heap.size, 0, none⟩ = some (.int .i64 k) ∧ w'.cell? ⟨w.heap.size, 1, none⟩ = some (.int .i64 i)) (by kernel_rfl) ⟨y0, y1⟩ (fun hHeld => ?_)
      refine take_at (i := 0) (v := ?_) rfl (by kernel_rfl) (by kernel_rfl) (by kernel_rfl) (fun _ _ _ h => h) (by rfl) ?_ (by assumption) ?_
      rotate_left
      · (intro wx hSw; obtain ⟨x0, x1⟩ := hSw; go_simp; with_reducible rfl)
      simp only [Act.put, List.setIfInBounds_toArray, List.set_cons_zero, List.set_cons_succ]
      refine take_at (i := 1) (v := ?_) rfl (by kernel_rfl) (by kernel_rfl) (by kernel_rfl) (fun _ _ _ h => h) (by rfl) ?_ (by assumption) ?_
      rotate_left
      · (intro wx hSw; obtain ⟨x0, x1⟩ := hSw; go_simp; with_reducible rfl)
      simp only [Act.put, List.setIfInBounds_toArray, List.set_cons_zero, List.set_cons_succ]
      refine take_at (i := 2) (v := ?_) rfl (by kernel_rfl) (by kernel_rfl) (by kernel_rfl) (fun _ _ _ h => h) (by rfl) ?_ (by assumption) ?_
      rotate_left
      · (intro wx hSw; obtain ⟨x0, x1⟩ := hSw; go_simp; with_reducible rfl)
      simp only [Act.put, List.setIfInBounds_toArray, List.set_cons_zero, List.set_cons_succ]
      refine take_at (i := 3) (v := ?_) rfl (by kernel_rfl) (by kernel_rfl) (by kernel_rfl) (fun _ _ _ h => h) (by rfl) ?_ (by assumption) ?_
      rotate_left
      · (intro wx hSw; obtain ⟨x0, x1⟩ := hSw; go_simp; with_reducible rfl)
      simp only [Act.put, List.setIfInBounds_toArray, List.set_cons_zero, List.set_cons_succ]
      refine take_at (i := 5) (v := ?_) rfl (by kernel_rfl) (by kernel_rfl) (by kernel_rfl) (fun _ _ _ h => h) (by rfl) ?_ (by assumption) ?_
      rotate_left
      · (intro wx hSw; obtain ⟨x0, x1⟩ := hSw; go_simp; with_reducible rfl)
      simp only [Act.put, List.setIfInBounds_toArray, List.set_cons_zero, List.set_cons_succ]
      refine take_at (i := 6) (v := ?_) rfl (by kernel_rfl) (by kernel_rfl) (by kernel_rfl) (fun _ _ _ h => h) (by rfl) ?_ (by assumption) ?_
      rotate_left
      · (intro wx hSw; obtain ⟨x0, x1⟩ := hSw; go_simp; with_reducible rfl)
      simp only [Act.put, List.setIfInBounds_toArray, List.set_cons_zero, List.set_cons_succ]
      have xA := (x1.below (Below.refl _ _).drew).below ((Below.refl _ _).alloc (Nat.le_refl _) (.cells #[.int .i64 k, .int .i64 i, .int .i64 0, .string ⟨#[]⟩] 111))
      have hSA : (w1.drew.alloc (.cells #[.int .i64 k, .int .i64 i, .int .i64 0, .string ⟨#[]⟩] 111)).cell? ⟨w.heap.size, 0, none⟩ = some (.int .i64 k) ∧ (w1.drew.alloc (.cells #[.int .i64 k, .int .i64 i, .int .i64 0, .string ⟨#[]⟩] 111)).cell? ⟨w.heap.size, 1, none⟩ = some (.int .i64 i) := ⟨xA.cell rfl, xA.cell rfl⟩
      refine two_at (i := 4) (j := 7) rfl rfl (by kernel_rfl) (by rfl) (by rfl) (fun K hK => ?_) (fun K hK => ?_)
      · go_simp
        refine hK.out _ _ ⟨y0, y1⟩ ?_
        clear hK K
        try simp only [Act.put, List.setIfInBounds_toArray, List.set_cons_zero, List.set_cons_succ]
        refine only_at (i := 7) rfl (by kernel_rfl) (by rfl) (fun K hK => ?_)
        go_simp
        refine hK.out _ _ hSA ?_
        clear hK K
        refine only_at (i := 8) rfl (by kernel_rfl) (by rfl) (fun K hK => ?_)
        refine wp_append_lies _ _ _ 98 rfl 0 111 i0 (.agg #[.int .i64 0, .int .i64 0, .int .i64 0, .string ⟨#[]⟩]) 4 40 Try.underlying98 hi hz0 hz1 hz2 rfl (by omega) (.slice ar m.req.length cr) m.req.length (reqCells m.req) rfl (hrown.alloc _) ⟨w1.heap.size, 0, none⟩ 1 1 (reqCells [newReq k i]) rfl rfl ?_ (reqCells_one _) (by omega) (by unfold maxLen; omega) (by omega) (Nat.zero_le _) _ rfl ?_
        · exact news_req w1.drew _ rfl (newReq k i) _
        intro g3 c3 w3 own3 hg3 hat3 hlt3
        have hmA := hmd.alloc (.cells #[.int .i64 k, .int .i64 i, .int .i64 0, .string ⟨#[]⟩] 111)
        have frB : Fr q o w o (w1.drew.alloc (.cells #[.int .i64 k, .int .i64 i, .int .i64 0, .string ⟨#[]⟩] 111)) := frd.below ((Below.refl _ _).alloc (Nat.le_refl _) _)
        have own3' : w3.ownsRow 0 111 4 (.slice (some ⟨g3, 0, none⟩) (m.req.length + 1) c3) (m.req ++ [newReq k i]).length (reqCells (m.req ++ [newReq k i])) := by
          rw [reqCells_append, List.length_append]; exact own3
        have hat3' : (Value.slice ar m.req.length cr).ownBlock = (Value.slice (some ⟨g3, 0, none⟩) (m.req.length + 1) c3).ownBlock ∨ (Value.slice (some ⟨g3, 0, none⟩) (m.req.length + 1) c3).ownBlock = some (w1.drew.alloc (.cells #[.int .i64 k, .int .i64 i, .int .i64 0, .string ⟨#[]⟩] 111)).heap.size := by
          rcases hat3 with e | e
          · exact .inl e
          · right; rw [e]; rfl
        obtain ⟨o4, hm4, fr4⟩ := hmA.pushReq _ _ own3' hg3 hat3'
        have hnr : some w.heap.size ≠ (Value.slice ar m.req.length cr).ownBlock := by
          intro e
          have := hmd.reqs.2 _ e.symm
          rw [hkey] at this
          exact hq (congrArg Prod.fst this).symm
        have x3 : Blk w3 w.heap.size 109 [.int .i64 k, .int .i64 i] := x1.keep ((hg3.block _ (by simp; omega) hnr).trans (Below.heap_alloc _ _ _ hlt1))
        have nb : some b ≠ (Value.slice ar m.req.length cr).ownBlock := by
          intro e
          have := hmd.reqs.2 _ e.symm
          rw [hmd.tag] at this
          simp at this
        have b3 : Blk w3 b _ _ := hmA.blk.keep (hg3.block b hmA.blk.lt nb)
        have z2 := b3.cell (k := 20) (u := .slice ar m.req.length cr) rfl
        have fz := b3.frozen
        have hS3 : w3.cell? ⟨w.heap.size, 0, none⟩ = some (.int .i64 k) ∧ w3.cell? ⟨w.heap.size, 1, none⟩ = some (.int .i64 i) := ⟨x3.cell rfl, x3.cell rfl⟩
        refine hK.out _ _ hS3 ?_
        clear hK K
        try simp only [Act.put, List.setIfInBounds_toArray, List.set_cons_zero, List.set_cons_succ]
        refine take_at (i := 9) (v := ?_) rfl (by kernel_rfl) (by kernel_rfl) (by kernel_rfl) (fun _ _ _ h => h) (by rfl) ?_ (by assumption) ?_
        rotate_left
        · (intro wx hSw; obtain ⟨x0, x1⟩ := hSw; go_simp; with_reducible rfl)
        simp only [Act.put, List.setIfInBounds_toArray, List.set_cons_zero, List.set_cons_succ]
        refine take_at (i := 10) (v := ?_) rfl (by kernel_rfl) (by kernel_rfl) (by kernel_rfl) (fun _ _ _ h => h) (by rfl) ?_ (by assumption) ?_
        rotate_left
        · (intro wx hSw; obtain ⟨x0, x1⟩ := hSw; go_simp; with_reducible rfl)
        simp only [Act.put, List.setIfInBounds_toArray, List.set_cons_zero, List.set_cons_succ]
        refine only_at (i := 11) rfl (by kernel_rfl) (by rfl) (fun K hK => ?_)
        go_simp
        have x4 := x3.keep (w' := w3.setCell ⟨b, 20, none⟩ (.slice (some ⟨g3, 0, none⟩) (m.req.length + 1) c3)) (Below.heap_setCell _ _ _ _ (by simpa using hbn.symm))
        refine hK.out _ _ ⟨x4.cell rfl, x4.cell rfl⟩ ?_
        clear hK K
        refine wpAnyH_done (by kernel_rfl) ?_ _
        refine NoPanic.normal ?_
        go_wp2
        exact bodyPost_end (v := .tuple #[]) (by simp [results, Try.results105, go_sem]) rfl ⟨rfl, o4, sv, _, hm4, frB.trans fr4⟩
      · go_simp
        refine hK.out _ _ hSA ?_
        clear hK K
        try simp only [Act.put, List.setIfInBounds_toArray, List.set_cons_zero, List.set_cons_succ]
        have y2a := fun ob => (hm1.alloc ob).reqv
        refine only_at (i := 4) rfl (by kernel_rfl) (by rfl) (fun K hK => ?_)
        go_simp
        refine hK.out _ _ hSA ?_
        clear hK K
        refine only_at (i := 8) rfl (by kernel_rfl) (by rfl) (fun K hK => ?_)
        refine wp_append_lies _ _ _ 98 rfl 0 111 i0 (.agg #[.int .i64 0, .int .i64 0, .int .i64 0, .string ⟨#[]⟩]) 4 40 Try.underlying98 hi hz0 hz1 hz2 rfl (by omega) (.slice ar m.req.length cr) m.req.length (reqCells m.req) rfl (hrown.alloc _) ⟨w1.heap.size, 0, none⟩ 1 1 (reqCells [newReq k i]) rfl rfl ?_ (reqCells_one _) (by omega) (by unfold maxLen; omega) (by omega) (Nat.zero_le _) _ rfl ?_
        · exact news_req w1.drew _ rfl (newReq k i) _
        intro g3 c3 w3 own3 hg3 hat3 hlt3
        have hmA := hmd.alloc (.cells #[.int .i64 k, .int .i64 i, .int .i64 0, .string ⟨#[]⟩] 111)
        have frB : Fr q o w o (w1.drew.alloc (.cells #[.int .i64 k, .int .i64 i, .int .i64 0, .string ⟨#[]⟩] 111)) := frd.below ((Below.refl _ _).alloc (Nat.le_refl _) _)
        have own3' : w3.ownsRow 0 111 4 (.slice (some ⟨g3, 0, none⟩) (m.req.length + 1) c3) (m.req ++ [newReq k i]).length (reqCells (m.req ++ [newReq k i])) := by
          rw [reqCells_append, List.length_append]; exact own3
        have hat3' : (Value.slice ar m.req.length cr).ownBlock = (Value.slice (some ⟨g3, 0, none⟩) (m.req.length + 1) c3).ownBlock ∨ (Value.slice (some ⟨g3, 0, none⟩) (m.req.length + 1) c3).ownBlock = some (w1.drew.alloc (.cells #[.int .i64 k, .int .i64 i, .int .i64 0, .string ⟨#[]⟩] 111)).heap.size := by
          rcases hat3 with e | e
          · exact .inl e
          · right; rw [e]; rfl
        obtain ⟨o4, hm4, fr4⟩ := hmA.pushReq _ _ own3' hg3 hat3'
        have hnr : some w.heap.size ≠ (Value.slice ar m.req.length cr).ownBlock := by
          intro e
          have := hmd.reqs.2 _ e.symm
          rw [hkey] at this
          exact hq (congrArg Prod.fst this).symm
        have x3 : Blk w3 w.heap.size 109 [.int .i64 k, .int .i64 i] := x1.keep ((hg3.block _ (by simp; omega) hnr).trans (Below.heap_alloc _ _ _ hlt1))
        have nb : some b ≠ (Value.slice ar m.req.length cr).ownBlock := by
          intro e
          have := hmd.reqs.2 _ e.symm
          rw [hmd.tag] at this
          simp at this
        have b3 : Blk w3 b _ _ := hmA.blk.keep (hg3.block b hmA.blk.lt nb)
        have z2 := b3.cell (k := 20) (u := .slice ar m.req.length cr) rfl
        have fz := b3.frozen
        have hS3 : w3.cell? ⟨w.heap.size, 0, none⟩ = some (.int .i64 k) ∧ w3.cell? ⟨w.heap.size, 1, none⟩ = some (.int .i64 i) := ⟨x3.cell rfl, x3.cell rfl⟩
        refine hK.out _ _ hS3 ?_
        clear hK K
        try simp only [Act.put, List.setIfInBounds_toArray, List.set_cons_zero, List.set_cons_succ]
        refine take_at (i := 9) (v := ?_) rfl (by kernel_rfl) (by kernel_rfl) (by kernel_rfl) (fun _ _ _ h => h) (by rfl) ?_ (by assumption) ?_
        rotate_left
        · (intro wx hSw; obtain ⟨x0, x1⟩ := hSw; go_simp; with_reducible rfl)
        simp only [Act.put, List.setIfInBounds_toArray, List.set_cons_zero, List.set_cons_succ]
        refine take_at (i := 10) (v := ?_) rfl (by kernel_rfl) (by kernel_rfl) (by kernel_rfl) (fun _ _ _ h => h) (by rfl) ?_ (by assumption) ?_
        rotate_left
        · (intro wx hSw; obtain ⟨x0, x1⟩ := hSw; go_simp; with_reducible rfl)
        simp only [Act.put, List.setIfInBounds_toArray, List.set_cons_zero, List.set_cons_succ]
        refine only_at (i := 11) rfl (by kernel_rfl) (by rfl) (fun K hK => ?_)
        go_simp
        have x4 := x3.keep (w' := w3.setCell ⟨b, 20, none⟩ (.slice (some ⟨g3, 0, none⟩) (m.req.length + 1) c3)) (Below.heap_setCell _ _ _ _ (by simpa using hbn.symm))
        refine hK.out _ _ ⟨x4.cell rfl, x4.cell rfl⟩ ?_
        clear hK K
        refine wpAnyH_done (by kernel_rfl) ?_ _
        refine NoPanic.normal ?_
        go_wp2
        exact bodyPost_end (v := .tuple #[]) (by simp [results, Try.results105, go_sem]) rfl ⟨rfl, o4, sv, _, hm4, frB.trans fr4⟩
  · simp only [cond_false]
    have y0 := x0.cell (k := 0) (u := .int .i64 k) rfl
    have y1 := x0.cell (k := 1) (u := .int .i64 i) rfl
    go_enter Try.func105, Try.ntmps105
    go_wp2_with fail
    refine (end_any hA hq k hk i 3 (by omega) (by omega) hs (by omega)).mono ?_
    rintro e w2 ⟨rfl, o2, sv2, rv2, hm2, fr2⟩
    go_wp2
    exact bodyPost_ret (v := .tuple #[]) (by simp [results, Try.results105, go_sem]) rfl ⟨rfl, o2, sv2, rv2, hm2, frA.trans fr2⟩

end
end Go.Proofs.Ytlafkpaljibonaa

namespace Go.Proofs.Ytlafkpaljibonaa
open Go.RowKit

section
variable {o o' : Nat → Tag} {q : Nat} {w w' : World} {b : Nat} {m : PM} {sv : Nat → Value} {rv : Value}

theorem Fr.setNew (h : Fr q o w o' w') {g : Nat} (hg : w.heap.size ≤ g) (j : Nat) (u : Value) : Fr q o w o' (w'.setCell ⟨g, j, none⟩ u) :=
  ⟨h.os, h.tape, h.output, by simpa [World.setCell] using h.size, h.clean.le (by simp [World.setCell]), h.tags, fun x hx hq => (Below.heap_setCell _ _ _ x (by simp; omega)).trans (h.block x hx hq)⟩

theorem FMem.setFar (h : FMem o q w b m sv rv) {g : Nat} (hg : (o g).1 ≠ q) (j : Nat) (u : Value) : FMem o q (w.setCell ⟨g, j, none⟩ u) b m sv rv := by
  have hs : (w.setCell ⟨g, j, none⟩ u).heap.size = w.heap.size := by simp [World.setCell]
  have hne : ∀ x, (o x).1 = q → (w.setCell ⟨g, j, none⟩ u).heap[x]? = w.heap[x]? := fun x hx => Below.heap_setCell _ _ _ x (by rintro rfl; exact hg hx)
  exact ⟨h.clean.le (Nat.le_of_eq hs.symm), h.tag, h.blk.keep (hne b (by rw [h.tag])), fun k hk => (h.sent k hk).keep (fun _ _ => rfl) fun x _ hx => hne x (by rw [hx]), h.reqs.keep (fun _ _ => rfl) fun x _ hx => hne x (by rw [hx]), h.few⟩

def PM.killAt (m : PM) : Option Nat → PM
  | some k => m.kill k
  | none => m
def PM.abort (m : PM) (k : Nat) (i : Int) : PM :=
  match m.find k i with
  | some _ => (m.killAt (m.slotOf k i)).endKey k i 5
  | none => m

theorem killAt_same (m : PM) (x : Option Nat) : (m.killAt x).con = m.con ∧ (m.killAt x).req = m.req := by
  cases x <;> exact ⟨rfl, rfl⟩

set_option maxRecDepth 100000 in
set_option maxHeartbeats 2000000 in
theorem abort_any (h : FMem o q w b m sv rv) (hq : q ≠ 0) (k : Nat) (hk : k < 4) (i : Int) (hs : (m.con k).sent.length ≤ 1000000000000) (hmax : m.req.length ≤ 100000000000) :
    Calls Try.prog 107 #[.pointer (some ⟨b, 0, none⟩), .agg #[.int .i64 k, .int .i64 i]] w fun r w' => r = .returned (.tuple #[]) ∧ ∃ o' sv' rv', FMem o' q w' b (m.abort k i) sv' rv' ∧ Fr q o w o' w' := by
  have kf : Hid (∀ w', FMem o q w' b m sv rv → Calls Try.prog 104 #[.pointer (some ⟨b, 0, none⟩), .agg #[.int .i64 k, .int .i64 i]] w' fun r w'' => r = .returned (fwV (m.find k i)) ∧ Below w'.heap.size w' w'') := fun w' h' => find_any h' k i
  have ks : Hid (∀ w', FMem o q w' b m sv rv → Calls Try.prog 111 #[.pointer (some ⟨b, 0, none⟩), .agg #[.int .i64 k, .int .i64 i]] w' fun r w'' => r = .returned (fwV (m.slotOf k i)) ∧ Below w'.heap.size w' w'') := fun w' h' => slotOf_any h' k i
  have x0 := Blk.made w 109 [.int .i64 k, .int .i64 i]
  have hb0 : Below w.heap.size w (w.alloc (.cells #[.int .i64 k, .int .i64 i] 109)) := (Below.refl _ _).alloc (Nat.le_refl _) _
  have hA := h.below hb0
  have frA := Fr.of_below (q := q) h.clean hb0
  have hkey : o w.heap.size = (0, 0) := h.clean _ (Nat.le_refl _)
  unfold PM.abort
  cases hf : m.find k i with
  | none =>
    rw [hf] at kf
    unfold fwV at kf
    go_enter Try.func107, Try.ntmps107
    go_wp2_with fail
    refine (kf.out _ hA).mono ?_
    rintro e w1 ⟨rfl, hb1⟩
    go_wp2
    exact bodyPost_ret (v := .tuple #[]) (by simp [results, Try.results107, go_sem]) rfl ⟨rfl, o, sv, rv, hA.below hb1, frA.below hb1⟩
  | some a =>
    rw [hf] at kf
    unfold fwV at kf
    simp only
    have hks := killAt_same m (m.slotOf k i)
    have hk0 := m.slotFrom_lt k i 0 6
    change ∀ a, m.slotOf k i = some a → a < 0 + 6 at hk0
    cases hsl : m.slotOf k i with
    | none =>
      rw [hsl] at ks
      unfold fwV at ks
      simp only [PM.killAt]
      go_enter Try.func107, Try.ntmps107
      go_wp2_with fail
      refine (kf.out _ hA).mono ?_
      rintro e w1 ⟨rfl, hb1⟩
      have hm1 := hA.below hb1
      have x1 := x0.below hb1
      have y0 := x1.cell (k := 0) (u := .int .i64 k) rfl
      have y1 := x1.cell (k := 1) (u := .int .i64 i) rfl
      go_wp2_with fail
      refine (ks.out _ hm1).mono ?_
      rintro e w2 ⟨rfl, hb2⟩
      have hm2 := hm1.below hb2
      have x2 := x1.below hb2
      clear y0 y1
      have y0 := x2.cell (k := 0) (u := .int .i64 k) rfl
      have y1 := x2.cell (k := 1) (u := .int .i64 i) rfl
      go_wp2_with fail
      refine (end_any hm2 hq k hk i 5 (by omega) (by omega) hs (by omega)).mono ?_
      rintro e w3 ⟨rfl, o3, sv3, rv3, hm3, fr3⟩
      go_wp2
      exact bodyPost_end (v := .tuple #[]) (by simp [results, Try.results107, go_sem]) rfl ⟨rfl, o3, sv3, rv3, hm3, ((frA.below hb1).below hb2).trans fr3⟩
    | some c =>
      have hc : c < 6 := by have := hk0 c hsl; omega
      rw [hsl] at ks
      unfold fwV at ks
      simp only [PM.killAt]
      go_enter Try.func107, Try.ntmps107
      go_wp2_with fail
      refine (kf.out _ hA).mono ?_
      rintro e w1 ⟨rfl, hb1⟩
      have hm1 := hA.below hb1
      have x1 := x0.below hb1
      have y0 := x1.cell (k := 0) (u := .int .i64 k) rfl
      have y1 := x1.cell (k := 1) (u := .int .i64 i) rfl
      go_wp2_with fail
      refine (ks.out _ hm1).mono ?_
      rintro e w2 ⟨rfl, hb2⟩
      have hm2 := hm1.below hb2
      have x2 := x1.below hb2
      clear y0 y1
      go_wp2_with fail
      refine (kill_any hm2 c hc).mono ?_
      rintro e w3 ⟨rfl, hm3, fr3⟩
      have x3 : Blk w3 w.heap.size 109 [.int .i64 k, .int .i64 i] := x2.keep (fr3.block _ x2.lt (by rw [hkey]; exact fun e => hq e.symm))
      have y0 := x3.cell (k := 0) (u := .int .i64 k) rfl
      have y1 := x3.cell (k := 1) (u := .int .i64 i) rfl
      go_wp2_with fail
      refine (end_any hm3 hq k hk i 5 (by omega) (by omega) hs (by show m.req.length ≤ _; omega)).mono ?_
      rintro e w4 ⟨rfl, o4, sv4, rv4, hm4, fr4⟩
      go_wp2
      exact bodyPost_end (v := .tuple #[]) (by simp [results, Try.results107, go_sem]) rfl ⟨rfl, o4, sv4, rv4, hm4, (((frA.below hb1).below hb2).trans fr3).trans fr4⟩

def PM.enqueue (m : PM) (k : Nat) (i : Int) (body : ByteArray) : PM :=
  cond m.room { m with req := withoutL m.req k i ++ [⟨k, i, 1, body⟩] } (m.endKey k i 2)

set_option maxRecDepth 100000 in
set_option maxHeartbeats 4000000 in
theorem enqueue_any (h : FMem o q w b m sv rv) (hq : q ≠ 0) (k : Nat) (hk : k < 4) (i st : Int) (body : ByteArray) (hs : (m.con k).sent.length ≤ 1000000000000) (hmax : m.req.length ≤ 100000000000) :
    Calls Try.prog 112 #[.pointer (some ⟨b, 0, none⟩), .agg #[.int .i64 k, .int .i64 i, .int .i64 st, .string body]] w fun r w' => r = .returned (.tuple #[]) ∧ ∃ o' sv' rv', FMem o' q w' b (m.enqueue k i body) sv' rv' ∧ Fr q o w o' w' := by
  obtain ⟨i0, hi, hz0, hz1, hz2⟩ := info_parts infoReq
  unfold PM.enqueue
  have kr : Hid (∀ w', FMem o q w' b m sv rv → Calls Try.prog 113 #[.pointer (some ⟨b, 0, none⟩)] w' fun r w'' => r = .returned (.bool m.room) ∧ Below w'.heap.size w' w'') := fun w' h' => hasRoom_any h' (by omega)
  have x0 := Blk.made w 111 [.int .i64 k, .int .i64 i, .int .i64 st, .string body]
  have hb0 : Below w.heap.size w (w.alloc (.cells #[.int .i64 k, .int .i64 i, .int .i64 st, .string body] 111)) := (Below.refl _ _).alloc (Nat.le_refl _) _
  have hA := h.below hb0
  have frA := Fr.of_below (q := q) h.clean hb0
  have hkey : o w.heap.size = (0, 0) := h.clean _ (Nat.le_refl _)
  have hbn : b ≠ w.heap.size := by have := h.blk.lt; omega
  have hnb : w.heap.size ≠ b := fun e => hbn e.symm
  cases hroom : m.room
  · rw [hroom] at kr
    simp only [cond_false]
    go_enter Try.func112, Try.ntmps112
    go_wp2_with fail
    refine (kr.out _ hA).mono ?_
    rintro e w1 ⟨rfl, hb1⟩
    have x1 := x0.below hb1
    have y0 := x1.cell (k := 0) (u := .int .i64 k) rfl
    have y1 := x1.cell (k := 1) (u := .int .i64 i) rfl
    go_wp2_with fail
    refine (end_any (hA.below hb1) hq k hk i 2 (by omega) (by omega) hs (by omega)).mono ?_
    rintro e w2 ⟨rfl, o2, sv2, rv2, hm2, fr2⟩
    go_wp2
    exact bodyPost_ret (v := .tuple #[]) (by simp [results, Try.results112, go_sem]) rfl ⟨rfl, o2, sv2, rv2, hm2, (frA.below hb1).trans fr2⟩
  · rw [hroom] at kr
    simp only [cond_true]
    go_enter Try.func112, Try.ntmps112
    go_wp2_with fail
    refine (kr.out _ hA).mono ?_
    rintro e w1 ⟨rfl, hb1⟩
    have x1 := x0.below hb1
    have c2 := x1.cell (k := 2) (u := .int .i64 st) rfl
    have fz1 := x1.frozen
    have hm1 := (hA.below hb1).setFar (g := w.heap.size) (by rw [hkey]; exact fun e => hq e.symm) 2 (.int .i64 1)
    have fr1 := (frA.below hb1).setNew (Nat.le_refl _) 2 (.int .i64 1)
    have x2 := x1.set 2 (.int .i64 1)
    go_wp2_with fail
    generalize w1.setCell ⟨w.heap.size, 2, none⟩ (.int .i64 1) = w2 at *
    clear c2 fz1 x1 hb1 x0 hb0 hA frA kr
    have x2 : Blk w2 w.heap.size 111 [.int .i64 k, .int .i64 i, .int .i64 1, .string body] := x2
    have xlt := x2.lt
    have y0 := x2.cell (k := 0) (u := .int .i64 k) rfl
    have y1 := x2.cell (k := 1) (u := .int .i64 i) rfl
    have y2 := x2.cell (k := 2) (u := .int .i64 1) rfl
    have y3 := x2.cell (k := 3) (u := .string body) rfl
    have hmd := hm1.below (Below.refl _ _).drew
    have z0 := hmd.reqv
    refine wp_region_noPanic ?_
    refine wp_region_held_drew (S := fun w' => w'.cell? ⟨w.heap.size, 0, none⟩ = some (.int .i64 k) ∧ w'.cell? ⟨w.heap.size, 1, none⟩ = some (.int .i64 i) ∧ w'.cell? ⟨w.heap.size, 2, none⟩ = some (.int .i64 1) ∧ w'.cell? ⟨w.heap.size, 3, none⟩ = some (.string body)) (by kernel_rfl) ⟨y0, y1, y2, y3⟩ (fun hHeld => ?_)
    refine take_at (i := 0) (v := ?_) rfl (by kernel_rfl) (by kernel_rfl) (by kernel_rfl) (fun _ _ _ h => h) (by rfl) ?_ (by assumption) ?_
    rotate_left
    · (intro wx hSw; obtain ⟨x0, x1, x2, x3⟩ := hSw; go_simp; with_reducible rfl)
    simp only [Act.put, List.setIfInBounds_toArray, List.set_cons_zero, List.set_cons_succ]
    refine take_at (i := 1) (v := ?_) rfl (by kernel_rfl) (by kernel_rfl) (by kernel_rfl) (fun _ _ _ h => h) (by rfl) ?_ (by assumption) ?_
    rotate_left
    · (intro wx hSw; obtain ⟨x0, x1, x2, x3⟩ := hSw; go_simp; with_reducible rfl)
    simp only [Act.put, List.setIfInBounds_toArray, List.set_cons_zero, List.set_cons_succ]
    refine take_at (i := 2) (v := ?_) rfl (by kernel_rfl) (by kernel_rfl) (by kernel_rfl) (fun _ _ _ h => h) (by rfl) ?_ (by assumption) ?_
    rotate_left
    · (intro wx hSw; obtain ⟨x0, x1, x2, x3⟩ := hSw; go_simp; with_reducible rfl)
    simp only [Act.put, List.setIfInBounds_toArray, List.set_cons_zero, List.set_cons_succ]
    refine take_at (i := 3) (v := ?_) rfl (by kernel_rfl) (by kernel_rfl) (by kernel_rfl) (fun _ _ _ h => h) (by rfl) ?_ (by assumption) ?_
    rotate_left
    · (intro wx hSw; obtain ⟨x0, x1, x2, x3⟩ := hSw; go_simp; with_reducible rfl)
    simp only [Act.put, List.setIfInBounds_toArray, List.set_cons_zero, List.set_cons_succ]
    refine take_at (i := 5) (v := ?_) rfl (by kernel_rfl) (by kernel_rfl) (by kernel_rfl) (fun _ _ _ h => h) (by rfl) ?_ (by assumption) ?_
    rotate_left
    · (intro wx hSw; obtain ⟨x0, x1, x2, x3⟩ := hSw; go_simp; with_reducible rfl)
    simp only [Act.put, List.setIfInBounds_toArray, List.set_cons_zero, List.set_cons_succ]
    refine take_at (i := 6) (v := ?_) rfl (by kernel_rfl) (by kernel_rfl) (by kernel_rfl) (fun _ _ _ h => h) (by rfl) ?_ (by assumption) ?_
    rotate_left
    · (intro wx hSw; obtain ⟨x0, x1, x2, x3⟩ := hSw; go_simp; with_reducible rfl)
    simp only [Act.put, List.setIfInBounds_toArray, List.set_cons_zero, List.set_cons_succ]
    refine only_at (i := 4) rfl (by kernel_rfl) (by rfl) (fun K hK => ?_)
    go_simp
    refine hK.out _ _ ⟨y0, y1, y2, y3⟩ ?_
    clear hK K hHeld
    refine only_at (i := 7) rfl (by kernel_rfl) (by rfl) (fun K hK => ?_)
    go_simp
    refine (without_any _ _ _ hmd.reqsAt k i (by omega)).mono ?_
    rintro e w3 ⟨v, rfl, own3, hb3⟩
    obtain ⟨av, cv, hv, -, -⟩ := own_slice own3
    subst hv
    have hm3 := hmd.below hb3
    have x3 := (x2.below (Below.refl _ _).drew).below hb3
    have z3 := hm3.reqv
    have fz := hm3.frozen
    have hS3 : w3.cell? ⟨w.heap.size, 0, none⟩ = some (.int .i64 k) ∧ w3.cell? ⟨w.heap.size, 1, none⟩ = some (.int .i64 i) ∧ w3.cell? ⟨w.heap.size, 2, none⟩ = some (.int .i64 1) ∧ w3.cell? ⟨w.heap.size, 3, none⟩ = some (.string body) := ⟨x3.cell rfl, x3.cell rfl, x3.cell rfl, x3.cell rfl⟩
    refine hK.out _ _ hS3 ?_
    clear hK K y0 y1 y2 y3 z0
    refine take_at (i := 8) (v := ?_) rfl (by kernel_rfl) (by kernel_rfl) (by kernel_rfl) (fun _ _ _ h => h) (by rfl) ?_ (by assumption) ?_
    rotate_left
    · (intro wx hSw; obtain ⟨x0, x1, x2, x3⟩ := hSw; go_simp; with_reducible rfl)
    simp only [Act.put, List.setIfInBounds_toArray, List.set_cons_zero, List.set_cons_succ]
    refine take_at (i := 9) (v := ?_) rfl (by kernel_rfl) (by kernel_rfl) (by kernel_rfl) (fun _ _ _ h => h) (by rfl) ?_ (by assumption) ?_
    rotate_left
    · (intro wx hSw; obtain ⟨x0, x1, x2, x3⟩ := hSw; go_simp; with_reducible rfl)
    simp only [Act.put, List.setIfInBounds_toArray, List.set_cons_zero, List.set_cons_succ]
    refine only_at (i := 10) rfl (by kernel_rfl) (by rfl) (fun K hK => ?_)
    go_simp
    have x4 := x3.keep (w' := w3.setCell ⟨b, 20, none⟩ (.slice av (withoutL m.req k i).length cv)) (Below.heap_setCell _ _ _ _ (by simpa using hnb))
    refine hK.out _ _ ⟨x4.cell rfl, x4.cell rfl, x4.cell rfl, x4.cell rfl⟩ ?_
    clear hK K
    refine wpAnyH_done (by kernel_rfl) ?_ _
    refine NoPanic.normal ?_
    obtain ⟨o4, hm4, fr4⟩ := hmd.newReq hb3 _ (withoutL m.req k i) own3
    have hkey4 : o4 w.heap.size = (0, 0) := (fr4.tags _ xlt).trans hkey
    have frB := (fr1.below (Below.refl _ _).drew).trans fr4
    have hlen := withoutL_len m.req k i
    clear z3 fz hS3 own3 hb3 hm3 hmd hm1 x2 x3 fr1 fr4
    generalize w3.setCell ⟨b, 20, none⟩ (.slice av (withoutL m.req k i).length cv) = w4 at *
    generalize hLL : withoutL m.req k i = L at *
    have HLL : Hid _ := hLL
    clear hLL
    go_wp2_with fail
    have xlt4 := x4.lt
    have y0 := x4.cell (k := 0) (u := .int .i64 k) rfl
    have y1 := x4.cell (k := 1) (u := .int .i64 i) rfl
    have y2 := x4.cell (k := 2) (u := .int .i64 1) rfl
    have y3 := x4.cell (k := 3) (u := .string body) rfl
    have hmd := hm4.below (Below.refl _ _).drew
    have frd := frB.below (Below.refl _ _).drew
    have z0 := hmd.reqv
    have hrown := hmd.reqs.1
    have xA := (x4.below (Below.refl _ _).drew).below ((Below.refl _ _).alloc (Nat.le_refl _) (.cells #[.int .i64 k, .int .i64 i, .int .i64 1, .string body] 111))
    have hSA : (w4.drew.alloc (.cells #[.int .i64 k, .int .i64 i, .int .i64 1, .string body] 111)).cell? ⟨w.heap.size, 0, none⟩ = some (.int .i64 k) ∧ (w4.drew.alloc (.cells #[.int .i64 k, .int .i64 i, .int .i64 1, .string body] 111)).cell? ⟨w.heap.size, 1, none⟩ = some (.int .i64 i) ∧ (w4.drew.alloc (.cells #[.int .i64 k, .int .i64 i, .int .i64 1, .string body] 111)).cell? ⟨w.heap.size, 2, none⟩ = some (.int .i64 1) ∧ (w4.drew.alloc (.cells #[.int .i64 k, .int .i64 i, .int .i64 1, .string body] 111)).cell? ⟨w.heap.size, 3, none⟩ = some (.string body) := ⟨xA.cell rfl, xA.cell rfl, xA.cell rfl, xA.cell rfl⟩
    refine wp_region_noPanic ?_
    refine wp_region_held_drew (S := fun w' => w'.cell? ⟨w.heap.size, 0, none⟩ = some (.int .i64 k) ∧ w'.cell? ⟨w.heap.size, 1, none⟩ = some (.int .i64 i) ∧ w'.cell? ⟨w.heap.size, 2, none⟩ = some (.int .i64 1) ∧ w'.cell? ⟨w.heap.size, 3, none⟩ = some (.string body)) (by kernel_rfl) ⟨y0, y1, y2, y3⟩ (fun hHeld => ?_)
    refine take_at (i := 0) (v := ?_) rfl (by kernel_rfl) (by kernel_rfl) (by kernel_rfl) (fun _ _ _ h => h) (by rfl) ?_ (by assumption) ?_
    rotate_left
    · (intro wx hSw; obtain ⟨x0, x1, x2, x3⟩ := hSw; go_simp; with_reducible rfl)
    simp only [Act.put, List.setIfInBounds_toArray, List.set_cons_zero, List.set_cons_succ]
    refine take_at (i := 1) (v := ?_) rfl (by kernel_rfl) (by kernel_rfl) (by kernel_rfl) (fun _ _ _ h => h) (by rfl) ?_ (by assumption) ?_
    rotate_left
    · (intro wx hSw; obtain ⟨x0, x1, x2, x3⟩ := hSw; go_simp; with_reducible rfl)
    simp only [Act.put, List.setIfInBounds_toArray, List.set_cons_zero, List.set_cons_succ]
    refine take_at (i := 2) (v := ?_) rfl (by kernel_rfl) (by kernel_rfl) (by kernel_rfl) (fun _ _ _ h => h) (by rfl) ?_ (by assumption) ?_
    rotate_left
    · (intro wx hSw; obtain ⟨x0, x1, x2, x3⟩ := hSw; go_simp; with_reducible rfl)
    simp only [Act.put, List.setIfInBounds_toArray, List.set_cons_zero, List.set_cons_succ]
    refine take_at (i := 3) (v := ?_) rfl (by kernel_rfl) (by kernel_rfl) (by kernel_rfl) (fun _ _ _ h => h) (by rfl) ?_ (by assumption) ?_
    rotate_left
    · (intro wx hSw; obtain ⟨x0, x1, x2, x3⟩ := hSw; go_simp; with_reducible rfl)
    simp only [Act.put, List.setIfInBounds_toArray, List.set_cons_zero, List.set_cons_succ]
    refine take_at (i := 5) (v := ?_) rfl (by kernel_rfl) (by kernel_rfl) (by kernel_rfl) (fun _ _ _ h => h) (by rfl) ?_ (by assumption) ?_
    rotate_left
    · (intro wx hSw; obtain ⟨x0, x1, x2, x3⟩ := hSw; go_simp; with_reducible rfl)
    simp only [Act.put, List.setIfInBounds_toArray, List.set_cons_zero, List.set_cons_succ]
    refine two_at (i := 4) (j := 6) rfl rfl (by kernel_rfl) (by rfl) (by rfl) (fun K hK => ?_) (fun K hK => ?_)
    · go_simp
      refine hK.out _ _ ⟨y0, y1, y2, y3⟩ ?_
      clear hK K
      try simp only [Act.put, List.setIfInBounds_toArray, List.set_cons_zero, List.set_cons_succ]
      refine only_at (i := 6) rfl (by kernel_rfl) (by rfl) (fun K hK => ?_)
      go_simp
      refine hK.out _ _ hSA ?_
      clear hK K
      refine only_at (i := 7) rfl (by kernel_rfl) (by rfl) (fun K hK => ?_)
      refine wp_append_lies _ _ _ 98 rfl 0 111 i0 (.agg #[.int .i64 0, .int .i64 0, .int .i64 0, .string ⟨#[]⟩]) 4 40 Try.underlying98 hi hz0 hz1 hz2 rfl (by omega) (.slice av L.length cv) L.length (reqCells L) rfl (hrown.alloc _) ⟨w4.heap.size, 0, none⟩ 1 1 (reqCells [⟨k, i, 1, body⟩]) rfl rfl ?_ (reqCells_one _) (by omega) (by unfold maxLen; omega) (by omega) (Nat.zero_le _) _ rfl ?_
      · exact news_req w4.drew _ rfl ⟨k, i, 1, body⟩ _
      intro g5 c5 w5 own5 hg5 hat5 hlt5
      have hmA := hmd.alloc (.cells #[.int .i64 k, .int .i64 i, .int .i64 1, .string body] 111)
      have frC := frd.below (w2 := w4.drew.alloc (.cells #[.int .i64 k, .int .i64 i, .int .i64 1, .string body] 111)) ((Below.refl _ _).alloc (Nat.le_refl _) _)
      have own5' : w5.ownsRow 0 111 4 (.slice (some ⟨g5, 0, none⟩) (L.length + 1) c5) (L ++ [(⟨k, i, 1, body⟩ : Req)]).length (reqCells (L ++ [(⟨k, i, 1, body⟩ : Req)])) := by
        rw [reqCells_append, List.length_append]; exact own5
      have hat5' : (Value.slice av L.length cv).ownBlock = (Value.slice (some ⟨g5, 0, none⟩) (L.length + 1) c5).ownBlock ∨ (Value.slice (some ⟨g5, 0, none⟩) (L.length + 1) c5).ownBlock = some (w4.drew.alloc (.cells #[.int .i64 k, .int .i64 i, .int .i64 1, .string body] 111)).heap.size := by
        rcases hat5 with e | e
        · exact .inl e
        · right; rw [e]; rfl
      obtain ⟨o6, hm6, fr6⟩ := hmA.pushReq _ _ own5' hg5 hat5'
      have hnr : some w.heap.size ≠ (Value.slice av L.length cv).ownBlock := by
        intro e
        have := hmd.reqs.2 _ e.symm
        rw [hkey4] at this
        exact hq (congrArg Prod.fst this).symm
      have x5 : Blk w5 w.heap.size 111 [.int .i64 k, .int .i64 i, .int .i64 1, .string body] := x4.keep ((hg5.block _ (by simp; omega) hnr).trans (Below.heap_alloc _ _ _ xlt4))
      have nb : some b ≠ (Value.slice av L.length cv).ownBlock := by
        intro e
        have := hmd.reqs.2 _ e.symm
        rw [hmd.tag] at this
        simp at this
      have b5 : Blk w5 b _ _ := hmA.blk.keep (hg5.block b hmA.blk.lt nb)
      have z5 := b5.cell (k := 20) (u := .slice av L.length cv) rfl
      have fz5 := b5.frozen
      have hS5 : w5.cell? ⟨w.heap.size, 0, none⟩ = some (.int .i64 k) ∧ w5.cell? ⟨w.heap.size, 1, none⟩ = some (.int .i64 i) ∧ w5.cell? ⟨w.heap.size, 2, none⟩ = some (.int .i64 1) ∧ w5.cell? ⟨w.heap.size, 3, none⟩ = some (.string body) := ⟨x5.cell rfl, x5.cell rfl, x5.cell rfl, x5.cell rfl⟩
      refine hK.out _ _ hS5 ?_
      clear hK K
      try simp only [Act.put, List.setIfInBounds_toArray, List.set_cons_zero, List.set_cons_succ]
      refine take_at (i := 8) (v := ?_) rfl (by kernel_rfl) (by kernel_rfl) (by kernel_rfl) (fun _ _ _ h => h) (by rfl) ?_ (by assumption) ?_
      rotate_left
      · (intro wx hSw; obtain ⟨x0, x1, x2, x3⟩ := hSw; go_simp; with_reducible rfl)
      simp only [Act.put, List.setIfInBounds_toArray, List.set_cons_zero, List.set_cons_succ]
      refine take_at (i := 9) (v := ?_) rfl (by kernel_rfl) (by kernel_rfl) (by kernel_rfl) (fun _ _ _ h => h) (by rfl) ?_ (by assumption) ?_
      rotate_left
      · (intro wx hSw; obtain ⟨x0, x1, x2, x3⟩ := hSw; go_simp; with_reducible rfl)
      simp only [Act.put, List.setIfInBounds_toArray, List.set_cons_zero, List.set_cons_succ]
      refine only_at (i := 10) rfl (by kernel_rfl) (by rfl) (fun K hK => ?_)
      go_simp
      have x6 := x5.keep (w' := w5.setCell ⟨b, 20, none⟩ (.slice (some ⟨g5, 0, none⟩) (L.length + 1) c5)) (Below.heap_setCell _ _ _ _ (by simpa using hnb))
      refine hK.out _ _ ⟨x6.cell rfl, x6.cell rfl, x6.cell rfl, x6.cell rfl⟩ ?_
      clear hK K
      refine wpAnyH_done (by kernel_rfl) ?_ _
      refine NoPanic.normal ?_
      go_wp2
      refine bodyPost_end (v := .tuple #[]) (by simp [results, Try.results112, go_sem]) rfl ⟨rfl, ?_⟩
      rw [HLL.out]
      first | exact ⟨o6, sv, _, hm6, frC.trans fr6⟩ | exact ⟨o6, ⟨sv, _, hm6⟩, frC.trans fr6⟩
    · go_simp
      refine hK.out _ _ hSA ?_
      clear hK K
      try simp only [Act.put, List.setIfInBounds_toArray, List.set_cons_zero, List.set_cons_succ]
      have y2a := fun ob => (hm4.alloc ob).reqv
      refine only_at (i := 4) rfl (by kernel_rfl) (by rfl) (fun K hK => ?_)
      go_simp
      refine hK.out _ _ hSA ?_
      clear hK K
      refine only_at (i := 7) rfl (by kernel_rfl) (by rfl) (fun K hK => ?_)
      refine wp_append_lies _ _ _ 98 rfl 0 111 i0 (.agg #[.int .i64 0, .int .i64 0, .int .i64 0, .string ⟨#[]⟩]) 4 40 Try.underlying98 hi hz0 hz1 hz2 rfl (by omega) (.slice av L.length cv) L.length (reqCells L) rfl (hrown.alloc _) ⟨w4.heap.size, 0, none⟩ 1 1 (reqCells [⟨k, i, 1, body⟩]) rfl rfl ?_ (reqCells_one _) (by omega) (by unfold maxLen; omega) (by omega) (Nat.zero_le _) _ rfl ?_
      · exact news_req w4.drew _ rfl ⟨k, i, 1, body⟩ _
      intro g5 c5 w5 own5 hg5 hat5 hlt5
      have hmA := hmd.alloc (.cells #[.int .i64 k, .int .i64 i, .int .i64 1, .string body] 111)
      have frC := frd.below (w2 := w4.drew.alloc (.cells #[.int .i64 k, .int .i64 i, .int .i64 1, .string body] 111)) ((Below.refl _ _).alloc (Nat.le_refl _) _)
      have own5' : w5.ownsRow 0 111 4 (.slice (some ⟨g5, 0, none⟩) (L.length + 1) c5) (L ++ [(⟨k, i, 1, body⟩ : Req)]).length (reqCells (L ++ [(⟨k, i, 1, body⟩ : Req)])) := by
        rw [reqCells_append, List.length_append]; exact own5
      have hat5' : (Value.slice av L.length cv).ownBlock = (Value.slice (some ⟨g5, 0, none⟩) (L.length + 1) c5).ownBlock ∨ (Value.slice (some ⟨g5, 0, none⟩) (L.length + 1) c5).ownBlock = some (w4.drew.alloc (.cells #[.int .i64 k, .int .i64 i, .int .i64 1, .string body] 111)).heap.size := by
        rcases hat5 with e | e
        · exact .inl e
        · right; rw [e]; rfl
      obtain ⟨o6, hm6, fr6⟩ := hmA.pushReq _ _ own5' hg5 hat5'
      have hnr : some w.heap.size ≠ (Value.slice av L.length cv).ownBlock := by
        intro e
        have := hmd.reqs.2 _ e.symm
        rw [hkey4] at this
        exact hq (congrArg Prod.fst this).symm
      have x5 : Blk w5 w.heap.size 111 [.int .i64 k, .int .i64 i, .int .i64 1, .string body] := x4.keep ((hg5.block _ (by simp; omega) hnr).trans (Below.heap_alloc _ _ _ xlt4))
      have nb : some b ≠ (Value.slice av L.length cv).ownBlock := by
        intro e
        have := hmd.reqs.2 _ e.symm
        rw [hmd.tag] at this
        simp at this
      have b5 : Blk w5 b _ _ := hmA.blk.keep (hg5.block b hmA.blk.lt nb)
      have z5 := b5.cell (k := 20) (u := .slice av L.length cv) rfl
      have fz5 := b5.frozen
      have hS5 : w5.cell? ⟨w.heap.size, 0, none⟩ = some (.int .i64 k) ∧ w5.cell? ⟨w.heap.size, 1, none⟩ = some (.int .i64 i) ∧ w5.cell? ⟨w.heap.size, 2, none⟩ = some (.int .i64 1) ∧ w5.cell? ⟨w.heap.size, 3, none⟩ = some (.string body) := ⟨x5.cell rfl, x5.cell rfl, x5.cell rfl, x5.cell rfl⟩
      refine hK.out _ _ hS5 ?_
      clear hK K
      try simp only [Act.put, List.setIfInBounds_toArray, List.set_cons_zero, List.set_cons_succ]
      refine take_at (i := 8) (v := ?_) rfl (by kernel_rfl) (by kernel_rfl) (by kernel_rfl) (fun _ _ _ h => h) (by rfl) ?_ (by assumption) ?_
      rotate_left
      · (intro wx hSw; obtain ⟨x0, x1, x2, x3⟩ := hSw; go_simp; with_reducible rfl)
      simp only [Act.put, List.setIfInBounds_toArray, List.set_cons_zero, List.set_cons_succ]
      refine take_at (i := 9) (v := ?_) rfl (by kernel_rfl) (by kernel_rfl) (by kernel_rfl) (fun _ _ _ h => h) (by rfl) ?_ (by assumption) ?_
      rotate_left
      · (intro wx hSw; obtain ⟨x0, x1, x2, x3⟩ := hSw; go_simp; with_reducible rfl)
      simp only [Act.put, List.setIfInBounds_toArray, List.set_cons_zero, List.set_cons_succ]
      refine only_at (i := 10) rfl (by kernel_rfl) (by rfl) (fun K hK => ?_)
      go_simp
      have x6 := x5.keep (w' := w5.setCell ⟨b, 20, none⟩ (.slice (some ⟨g5, 0, none⟩) (L.length + 1) c5)) (Below.heap_setCell _ _ _ _ (by simpa using hnb))
      refine hK.out _ _ ⟨x6.cell rfl, x6.cell rfl, x6.cell rfl, x6.cell rfl⟩ ?_
      clear hK K
      refine wpAnyH_done (by kernel_rfl) ?_ _
      refine NoPanic.normal ?_
      go_wp2
      refine bodyPost_end (v := .tuple #[]) (by simp [results, Try.results112, go_sem]) rfl ⟨rfl, ?_⟩
      rw [HLL.out]
      first | exact ⟨o6, sv, _, hm6, frC.trans fr6⟩ | exact ⟨o6, ⟨sv, _, hm6⟩, frC.trans fr6⟩

end
end Go.Proofs.Ytlafkpaljibonaa
