import Derived.Test.YtmjnengplfoiiaaGreatP1
import Derived.Deep.RegionHeld3
namespace Go.Proofs.YtmjnengplfoiiaaGreat
open Go.RowKit

def newSlot (st : Int) : PSlot := ⟨st, false, 0, 0, -1, 0, ⟨#[]⟩⟩

set_option maxRecDepth 100000 in
set_option maxHeartbeats 400000 in
theorem newPlace_any (st : Int) (w : World) :
    Calls Tryz.prog 28 #[.int .i64 st] w fun r w' => r = .returned (.agg #[.int .i64 st, .bool false, .int .i64 0, .int .i64 0, .int .i64 (-1), .int .i64 0, .string ⟨#[]⟩]) ∧ Below w.heap.size w w' := by
  go_enter Tryz.func28, Tryz.ntmps28
  go_wp2
  exact bodyPost_ret (v := .agg #[.int .i64 st, .bool false, .int .i64 0, .int .i64 0, .int .i64 (-1), .int .i64 0, .string ⟨#[]⟩]) (by simp [results, Tryz.results28, go_sem]) rfl ⟨rfl, (Below.refl _ _).alloc (Nat.le_refl _) _⟩

section
variable {o : Nat → Tag} {q : Nat} {w : World} {b : Nat} {m : PM} {sv : Nat → Value} {rv : Value}

/-- A slot's seven cells are written. -/
theorem FMem.putSlot (h : FMem o q w b m sv rv) {k : Nat} (hk : k < 6) (s : PSlot) :
    FMem o q (((((((w.setCell ⟨b, 21 + k * 7, none⟩ (.int .i64 s.st)).setCell ⟨b, 21 + k * 7 + 1, none⟩ (.bool s.old)).setCell ⟨b, 21 + k * 7 + 2, none⟩ (.int .i64 s.served)).setCell ⟨b, 21 + k * 7 + 3, none⟩ (.int .i64 s.since)).setCell ⟨b, 21 + k * 7 + 4, none⟩ (.int .i64 s.conn)).setCell ⟨b, 21 + k * 7 + 5, none⟩ (.int .i64 s.id)).setCell ⟨b, 21 + k * 7 + 6, none⟩ (.string s.job))
      b { m with slot := upd m.slot k s } sv rv := by
  refine h.put ?_ (by simp [World.setCell]) ?_ (fun _ _ => rfl) rfl
  · rw [← fcells_slot m sv rv k hk s]
    exact ((((((h.blk.set _ _).set _ _).set _ _).set _ _).set _ _).set _ _).set _ _
  · intro g hg
    repeat rw [Below.heap_setCell _ _ _ g (by simpa using hg)]

theorem FMem.fr_put {w' : World} {m' : PM} (h : FMem o q w b m sv rv) (h' : FMem o q w' b m' sv rv) (h1 : w'.os = w.os) (h2 : w'.tape = w.tape) (h3 : w'.output = w.output) (h4 : w'.heap.size = w.heap.size)
    (hb : ∀ g, g ≠ b → w'.heap[g]? = w.heap[g]?) : Fr q o w o w' :=
  ⟨h1, h2, h3, Nat.le_of_eq h4.symm, h'.clean, fun _ _ => rfl, fun g _ hg => hb g (by rintro rfl; rw [h.tag] at hg; exact hg rfl)⟩

/-- The first k slots are looked at: the Empty ones become Starting, as long as some are missing. -/
def startTo (m : PM) (u : Int) : Nat → PM × Int
  | 0 => (m, u)
  | k + 1 =>
    let r := startTo m u k
    cond (decide (r.2 < m.set.ch) && (r.1.slot k).st == 0) ({ r.1 with slot := upd r.1.slot k (newSlot 1) }, r.2 + 1) r

theorem startTo_set (m : PM) (u : Int) (k : Nat) : (startTo m u k).1.set = m.set := by
  induction k with
  | zero => rfl
  | succ k ih =>
    simp only [startTo]
    cases h : (decide ((startTo m u k).2 < m.set.ch) && ((startTo m u k).1.slot k).st == 0) <;> simp [ih]

theorem startTo_bd (m : PM) (u : Int) (k : Nat) : u ≤ (startTo m u k).2 ∧ (startTo m u k).2 ≤ u + k := by
  induction k with
  | zero => simp [startTo]
  | succ k ih =>
    simp only [startTo]
    cases h : (decide ((startTo m u k).2 < m.set.ch) && ((startTo m u k).1.slot k).st == 0) <;> simp <;> omega

def PM.startMissing (m : PM) : PM := (startTo m (m.usedTo 6) 6).1

set_option maxRecDepth 100000 in
set_option maxHeartbeats 2000000 in
theorem startMissing_any (h : FMem o q w b m sv rv) :
    Calls Tryz.prog 60 #[.pointer (some ⟨b, 0, none⟩)] w fun r w' => r = .returned (.tuple #[]) ∧ FMem o q w' b m.startMissing sv rv ∧ Fr q o w o w' := by
  have hu := m.usedTo_bd 6
  have hc : Hid (∀ (w' : World), FMem o q w' b m sv rv → Calls Tryz.prog 88 #[.pointer (some ⟨b, 0, none⟩)] w' fun r w'' => r = .returned (.int .i64 (m.usedTo 6)) ∧ Below w'.heap.size w' w'') := fun w' h' => used_any h'
  unfold PM.startMissing
  generalize m.usedTo 6 = u at *
  go_enter Tryz.func60, Tryz.ntmps60
  go_wp2_with fail
  refine (hc.out _ h).mono ?_
  rintro e w1 ⟨rfl, hb1⟩
  have hm1 := h.below hb1
  have fr1 := Fr.of_below (q := q) h.clean hb1
  clear h hb1
  go_wp2
  go_loopw [2, 6] (fun c i w' => ∃ k : Nat, k ≤ 6 ∧ c = .int .i64 (startTo m u k).2 ∧ i = .int .i64 k ∧ FMem o q w' b (startTo m u k).1 sv rv ∧ Fr q o w o w') (fun _ i _ => 6 - (intOf i).toNat)
  case atStart => exact ⟨0, by omega, rfl, rfl, hm1, fr1⟩
  case round =>
    obtain ⟨k, hk, rfl, rfl, hm, hfr⟩ := hrel
    by_cases hlt : k < 6
    · have bd := startTo_bd m u k
      have hset := startTo_set m u k
      have hstep : startTo m u (k + 1) = cond (decide ((startTo m u k).2 < m.set.ch) && ((startTo m u k).1.slot k).st == 0) ({ (startTo m u k).1 with slot := upd (startTo m u k).1.slot k (newSlot 1) }, (startTo m u k).2 + 1) (startTo m u k) := rfl
      have HS : Hid _ := hstep
      clear hstep
      have ch := hm.chc
      obtain ⟨c0, -⟩ := hm.slotc hlt
      rw [hset] at ch
      clear hset hm1 fr1
      generalize startTo m u k = R at *
      by_cases g1 : R.2 < m.set.ch
      · by_cases g2 : (R.1.slot k).st = 0
        · have HS2 : Hid (startTo m u (k + 1) = ({ R.1 with slot := upd R.1.slot k (newSlot 1) }, R.2 + 1)) := by
            have := HS.out; simp only [g1, g2, decide_true, beq_self_eq_true, Bool.and_self, cond_true] at this; exact this
          clear HS
          rw [g2] at c0
          go_wp2
          have hmd := hm.below (Below.refl _ _).drew
          go_region_held3 (fun w' => True) (trivial) (first | (go_at_call 28; refine (newPlace_any _ _).mono ?_; rintro e w2 ⟨rfl, hb2⟩; have hm2 := hmd.below hb2; obtain ⟨d0, d1, d2, d3, d4, d5, d6⟩ := hm2.slotc hlt; have fz := hm2.frozen))
          go_wp2
          have e2 := HS2.out
          have fr2 : Fr q o w o w2 := hfr.trans ((Fr.of_below hm.clean (Below.refl _ _).drew).trans (Fr.of_below hmd.clean hb2))
          have hm3 := hm2.putSlot hlt (newSlot 1)
          refine ⟨⟨k + 1, by omega, ?_, by go_num, ?_, ?_⟩, by simp [intOf]; omega⟩
          · rw [e2]
          · rw [e2]; exact hm3
          · exact fr2.trans (hm2.fr_put hm3 (by simp [World.setCell]) (by simp [World.setCell]) (by simp [World.setCell]) (by simp [World.setCell]) (by intro g hg; repeat rw [Below.heap_setCell _ _ _ g (by simpa using hg)]))
        · have HS2 : Hid (startTo m u (k + 1) = R) := by
            have := HS.out; have g3 : ((R.1.slot k).st == 0) = false := by simpa using g2
            simp only [g3, Bool.and_false, cond_false] at this; exact this
          clear HS
          go_wp2
          have e2 := HS2.out
          exact ⟨⟨k + 1, by omega, by rw [e2], by go_num, by rw [e2]; exact hm, hfr⟩, by simp [intOf]; omega⟩
      · have HS2 : Hid (startTo m u (k + 1) = R) := by
          have := HS.out; simp only [g1, decide_false, Bool.false_and, cond_false] at this; exact this
        clear HS
        go_wp2
        have e2 := HS2.out
        exact ⟨⟨k + 1, by omega, by rw [e2], by go_num, by rw [e2]; exact hm, hfr⟩, by simp [intOf]; omega⟩
    · have : k = 6 := by omega
      subst this
      go_wp2
      exact bodyPost_end (v := .tuple #[]) (by simp [results, Tryz.results60, go_sem]) rfl ⟨rfl, hm, hfr⟩

/-- The place of the first that waits. -/
def firstW : List Req → Nat → Option Nat
  | [], _ => none
  | r :: l, k => cond (r.stage == 1) (some k) (firstW l (k + 1))

theorem firstW_drop (l : List Req) (k : Nat) (hk : k < l.length) : firstW (l.drop k) k = cond (l[k].stage == 1) (some k) (firstW (l.drop (k + 1)) (k + 1)) := by
  rw [List.drop_eq_getElem_cons hk]; rfl

def PM.fw (m : PM) : Option Nat := firstW m.req 0
def fwV : Option Nat → Value
  | none => .tuple #[.int .i64 0, .bool false]
  | some k => .tuple #[.int .i64 k, .bool true]

theorem reqCells_get (l : List Req) (k : Nat) (hk : k < l.length) : (reqCells l)[k * 4]? = some (.int .i64 l[k].conn) ∧ (reqCells l)[k * 4 + 1]? = some (.int .i64 l[k].id) ∧ (reqCells l)[k * 4 + 2]? = some (.int .i64 l[k].stage) ∧ (reqCells l)[k * 4 + 3]? = some (.string l[k].body) := by
  induction l generalizing k with
  | nil => simp at hk
  | cons r l ih =>
    cases k with
    | zero => simp [reqCells, Req.cells]
    | succ k =>
      have := ih k (by simpa using hk)
      have e : reqCells (r :: l) = .int .i64 r.conn :: .int .i64 r.id :: .int .i64 r.stage :: .string r.body :: reqCells l := by simp [reqCells, Req.cells]
      rw [e, show (k + 1) * 4 = k * 4 + 1 + 1 + 1 + 1 from by omega]
      simpa using this

theorem reqCells_length (l : List Req) : (reqCells l).length = l.length * 4 := by
  induction l with
  | nil => rfl
  | cons r l ih => simp [reqCells, Req.cells] at *; omega

theorem req_cells (h : FMem o q w b m sv rv) (k : Nat) (hk : k < m.req.length) : ∃ g c, rv = .slice (some ⟨g, 0, none⟩) m.req.length c ∧ g < w.heap.size ∧ g ≠ b ∧ o g = (q, 6) ∧
    w.cell? ⟨g, k * 4, none⟩ = some (.int .i64 m.req[k].conn) ∧ w.cell? ⟨g, k * 4 + 1, none⟩ = some (.int .i64 m.req[k].id) ∧ w.cell? ⟨g, k * 4 + 2, none⟩ = some (.int .i64 m.req[k].stage) ∧ w.cell? ⟨g, k * 4 + 3, none⟩ = some (.string m.req[k].body) := by
  obtain ⟨h1, h2⟩ := h.reqs
  obtain ⟨g, c, rfl, -, hlt⟩ := h1.form (by omega)
  have := reqCells_get m.req k hk
  refine ⟨g, c, rfl, hlt, ?_, h2 g rfl, ?_⟩
  · rintro rfl; have := h2 g rfl; rw [h.tag] at this; simp at this
  · rw [h1.cellAt _ (by omega), h1.cellAt _ (by omega), h1.cellAt _ (by omega), h1.cellAt _ (by omega)]
    exact this

end
end Go.Proofs.YtmjnengplfoiiaaGreat
