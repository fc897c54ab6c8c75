import Derived.Test.YtlafkpaljibonaaGreatP1
import Derived.Deep.RegionHeld3
namespace Go.Proofs.YtlafkpaljibonaaGreat
open Go.RowKit

def newSlot (st : Int) : PSlot := ⟨st, false, 0, 0, -1, 0, ⟨#[]⟩⟩

set_option maxRecDepth 100000 in
set_option maxHeartbeats 400000 in
theorem newPlace_any (st : Int) (w : World) :
    Calls Tryz.prog 30 #[.int .i64 st] w fun r w' => r = .returned (.agg #[.int .i64 st, .bool false, .int .i64 0, .int .i64 0, .int .i64 (-1), .int .i64 0, .string ⟨#[]⟩]) ∧ Below w.heap.size w w' := by
  go_enter Tryz.func30, Tryz.ntmps30
  go_wp2
  exact bodyPost_ret (v := .agg #[.int .i64 st, .bool false, .int .i64 0, .int .i64 0, .int .i64 (-1), .int .i64 0, .string ⟨#[]⟩]) (by simp [results, Tryz.results30, go_sem]) rfl ⟨rfl, (Below.refl _ _).alloc (Nat.le_refl _) _⟩

section
variable {o : Nat → Tag} {q : Nat} {w : World} {b : Nat} {m : PM} {sv : Nat → Value} {rv : Value}

/-- A slot's seven cells are written. -/
theorem FMem.putSlot (h : FMem o q w b m sv rv) {k : Nat} (hk : k < 6) (s : PSlot) :
    FMem o q (((((((w.setCell ⟨b, 21 + k * 7, none⟩ (.int .i64 s.st)).setCell ⟨b, 21 + k * 7 + 1, none⟩ (.bool s.old)).setCell ⟨b, 21 + k * 7 + 2, none⟩ (.int .i64 s.served)).setCell ⟨b, 21 + k * 7 + 3, none⟩ (.int .i64 s.since)).setCell ⟨b, 21 + k * 7 + 4, none⟩ (.int .i64 s.conn)).setCell ⟨b, 21 + k * 7 + 5, none⟩ (.int .i64 s.id)).setCell ⟨b, 21 + k * 7 + 6, none⟩ (.string s.job))
      b { m with slot := upd m.slot k s } sv rv := by
  refine h.put ?_ (by simp [World.setCell]) ?_ (fun _ _ => rfl) rfl
  · rw [← fcells_slot m sv rv k hk s]
    exact ((((((h.blk.set _ _).set _ _).set _ _).set _ _).set _ _).set _ _).set _ _
  · intro g hg
    repeat rw [Below.heap_setCell _ _ _ g (by simpa using hg)]

theorem FMem.fr_put {w' : World} {m' : PM} (h : FMem o q w b m sv rv) (h' : FMem o q w' b m' sv rv) (h1 : w'.os = w.os) (h2 : w'.tape = w.tape) (h3 : w'.output = w.output) (h4 : w'.heap.size = w.heap.size)
    (hb : ∀ g, g ≠ b → w'.heap[g]? = w.heap[g]?) : Fr q o w o w' :=
  ⟨h1, h2, h3, Nat.le_of_eq h4.symm, h'.clean, fun _ _ => rfl, fun g _ hg => hb g (by rintro rfl; rw [h.tag] at hg; exact hg rfl)⟩

/-- The first k slots are looked at: the Empty ones become Starting, as long as some are missing. -/
def startTo (m : PM) (u : Int) : Nat → PM × Int
  | 0 => (m, u)
  | k + 1 =>
    let r := startTo m u k
    cond (decide (r.2 < m.set.ch) && (r.1.slot k).st == 0) ({ r.1 with slot := upd r.1.slot k (newSlot 1) }, r.2 + 1) r

theorem startTo_set (m : PM) (u : Int) (k : Nat) : (startTo m u k).1.set = m.set := by
  induction k with
  | zero => rfl
  | succ k ih =>
    simp only [startTo]
    cases h : (decide ((startTo m u k).2 < m.set.ch) && ((startTo m u k).1.slot k).st == 0) <;> simp [ih]

theorem startTo_bd (m : PM) (u : Int) (k : Nat) : u ≤ (startTo m u k).2 ∧ (startTo m u k).2 ≤ u + k := by
  induction k with
  | zero => simp [startTo]
  | succ k ih =>
    simp only [startTo]
    cases h : (decide ((startTo m u k).2 < m.set.ch) && ((startTo m u k).1.slot k).st == 0) <;> simp <;> omega

def PM.startMissing (m : PM) : PM := (startTo m (m.usedTo 6) 6).1

/-- The first of the first k slots that is Empty. -/
def PM.emptyTo (m : PM) : Nat → Option Nat
  | 0 => none
  | k + 1 =>
    match m.emptyTo k with
    | some a => some a
    | none => cond ((m.slot k).st == 0) (some k) none

theorem PM.emptyTo_lt {m : PM} : ∀ {k a : Nat}, m.emptyTo k = some a → a < k ∧ (m.slot a).st = 0
  | 0, _, h => by simp [PM.emptyTo] at h
  | k + 1, a, h => by
    unfold PM.emptyTo at h
    cases e : m.emptyTo k with
    | some a' =>
      rw [e] at h
      simp only [Option.some.injEq] at h
      subst h
      have := PM.emptyTo_lt e
      exact ⟨by omega, this.2⟩
    | none =>
      rw [e] at h
      cases e2 : ((m.slot k).st == 0)
      · rw [e2] at h; simp at h
      · rw [e2] at h
        simp only [cond_true, Option.some.injEq] at h
        subst h
        exact ⟨by omega, by simpa using e2⟩

theorem PM.emptyTo_none {m : PM} : ∀ {k : Nat}, m.emptyTo k = none → ∀ j, j < k → ((m.slot j).st == 0) = false
  | 0, _, j, hj => by omega
  | k + 1, h, j, hj => by
    unfold PM.emptyTo at h
    cases e : m.emptyTo k with
    | some a' => rw [e] at h; simp at h
    | none =>
      rw [e] at h
      by_cases hjk : j = k
      · subst hjk
        cases e2 : ((m.slot j).st == 0)
        · rfl
        · rw [e2] at h; simp at h
      · exact PM.emptyTo_none e j (by omega)

def PM.startAt (m : PM) (a : Nat) : PM := { m with slot := upd m.slot a (newSlot 1) }

/-- The first Empty slot becomes Starting. -/
def PM.startOne (m : PM) : PM :=
  match m.emptyTo 6 with
  | some a => m.startAt a
  | none => m

theorem PM.startOne_set (m : PM) : m.startOne.set = m.set := by
  unfold PM.startOne
  cases m.emptyTo 6 <;> rfl

def PM.startN (m : PM) : Nat → PM
  | 0 => m
  | n + 1 => (m.startN n).startOne

theorem PM.startN_set (m : PM) : ∀ n, (m.startN n).set = m.set
  | 0 => rfl
  | n + 1 => (PM.startOne_set _).trans (PM.startN_set m n)

theorem PM.startN_first (m : PM) : ∀ n, m.startN (n + 1) = m.startOne.startN n
  | 0 => rfl
  | n + 1 => by
    show (m.startN (n + 1)).startOne = (m.startOne.startN n).startOne
    rw [PM.startN_first m n]

theorem startTo_succ (m : PM) (u : Int) (k : Nat) : startTo m u (k + 1) = cond (decide ((startTo m u k).2 < m.set.ch) && ((startTo m u k).1.slot k).st == 0) ({ (startTo m u k).1 with slot := upd (startTo m u k).1.slot k (newSlot 1) }, (startTo m u k).2 + 1) (startTo m u k) := rfl

theorem startTo_done (m : PM) {u : Int} (h : m.set.ch ≤ u) : ∀ k, startTo m u k = (m, u)
  | 0 => rfl
  | k + 1 => by
    have hn : decide (u < m.set.ch) = false := by simpa using h
    rw [startTo_succ, startTo_done m h k]
    simp only [hn, Bool.false_and, cond_false]

theorem startTo_step (m : PM) {u : Int} (h : u < m.set.ch) : ∀ k, startTo m u k = match m.emptyTo k with
    | some a => startTo (m.startAt a) (u + 1) k
    | none => (m, u)
  | 0 => rfl
  | k + 1 => by
    have ih := startTo_step m h k
    have he : m.emptyTo (k + 1) = match m.emptyTo k with
      | some a => some a
      | none => cond ((m.slot k).st == 0) (some k) none := rfl
    rw [he]
    cases e : m.emptyTo k with
    | some a =>
      rw [e] at ih
      simp only at ih ⊢
      rw [startTo_succ, startTo_succ, ih]
      rfl
    | none =>
      rw [e] at ih
      simp only at ih ⊢
      rw [startTo_succ, ih]
      have hd : decide (u < m.set.ch) = true := by simpa using h
      simp only [hd, Bool.true_and]
      cases e2 : ((m.slot k).st == 0)
      · rfl
      · simp only [cond_true]
        have hno := PM.emptyTo_none e
        have key : ∀ j, j ≤ k → startTo (m.startAt k) (u + 1) j = (m.startAt k, u + 1) := by
          intro j hj
          induction j with
          | zero => rfl
          | succ j ihj =>
            rw [startTo_succ, ihj (by omega)]
            have : (((m.startAt k).slot j).st == 0) = false := by
              simp only [PM.startAt, upd_other _ _ (show j ≠ k by omega)]
              exact hno j (by omega)
            simp only [this, Bool.and_false, cond_false]
        rw [startTo_succ, key k (Nat.le_refl _)]
        have : (((m.startAt k).slot k).st == 0) = false := by simp [PM.startAt, newSlot]
        simp only [this, Bool.and_false, cond_false]
        rfl

theorem startN_eq : ∀ (n : Nat) (m : PM) (u : Int), (m.set.ch - u).toNat = n → (startTo m u 6).1 = m.startN n
  | 0, m, u, h => by rw [startTo_done m (by omega)]; rfl
  | n + 1, m, u, h => by
    have hu : u < m.set.ch := by omega
    rw [PM.startN_first, startTo_step m hu 6]
    have e0 : m.startOne = match m.emptyTo 6 with
      | some a => m.startAt a
      | none => m := rfl
    cases e : m.emptyTo 6 with
    | some a =>
      rw [e] at e0
      simp only at e0 ⊢
      rw [e0]
      exact startN_eq n _ _ (by show (m.set.ch - (u + 1)).toNat = n; omega)
    | none =>
      rw [e] at e0
      simp only at e0 ⊢
      rw [e0]
      have : ∀ n, m.startN n = m := by
        intro n
        induction n with
        | zero => rfl
        | succ n ih => show (m.startN n).startOne = m; rw [ih, e0]
      rw [this]

set_option maxRecDepth 100000 in
set_option maxHeartbeats 2000000 in
theorem startOne_any (h : FMem o q w b m sv rv) :
    Calls Tryz.prog 95 #[.pointer (some ⟨b, 0, none⟩)] w fun r w' => r = .returned (.tuple #[]) ∧ FMem o q w' b m.startOne sv rv ∧ Fr q o w o w' := by
  have H0 : Hid (m.startOne = match m.emptyTo 6 with
    | some a => m.startAt a
    | none => m) := rfl
  go_enter Tryz.func95, Tryz.ntmps95
  go_wp2
  go_loopw [3] (fun i w' => ∃ k : Nat, k ≤ 6 ∧ i = .int .i64 k ∧ m.emptyTo k = none ∧ w' = w) (fun i _ => 6 - (intOf i).toNat)
  case atStart => exact ⟨0, by omega, rfl, rfl, rfl⟩
  case round =>
    obtain ⟨k, hk, rfl, he, hw⟩ := hrel
    subst hw
    have HE : Hid _ := he
    clear he
    by_cases hlt : k < 6
    · obtain ⟨c0, -⟩ := h.slotc hlt
      have hkI : (k : Int) < 6 := by omega
      have HS : Hid (m.emptyTo (k + 1) = cond ((m.slot k).st == 0) (some k) none) := by
        have := HE.out
        show m.emptyTo (k + 1) = _
        simp only [PM.emptyTo, this]
      by_cases g2 : (m.slot k).st = 0
      · have HS2 : Hid (m.emptyTo 6 = some k) := by
          have e1 : m.emptyTo (k + 1) = some k := by rw [HS.out, g2]; rfl
          have up : ∀ j, k + 1 ≤ j → m.emptyTo j = some k := by
            intro j hj
            induction j with
            | zero => omega
            | succ j ih =>
              by_cases ej : j = k
              · rw [ej]; exact e1
              · have := ih (by omega)
                simp only [PM.emptyTo, this]
          exact up 6 (by omega)
        have H1 : Hid (m.startOne = m.startAt k) := by show _ = _; rw [H0.out, HS2.out]
        clear HS HE
        rw [g2] at c0
        go_wp2
        have hmd := h.below (Below.refl _ _).drew
        go_region_held3 (fun w' => True) (trivial) (first | (go_at_call 30; refine (newPlace_any _ _).mono ?_; rintro e w2 ⟨rfl, hb2⟩; have hm2 := hmd.below hb2; obtain ⟨d0, d1, d2, d3, d4, d5, d6⟩ := hm2.slotc hlt; have fz := hm2.frozen))
        have hm3 := hm2.putSlot hlt (newSlot 1)
        have fr2 : Fr q o wr o w2 := (Fr.of_below h.clean (Below.refl _ _).drew).trans (Fr.of_below hmd.clean hb2)
        have fr3 := hm2.fr_put hm3 (by simp [World.setCell]) (by simp [World.setCell]) (by simp [World.setCell]) (by simp [World.setCell]) (by intro g hg; repeat rw [Below.heap_setCell _ _ _ g (by simpa using hg)])
        go_wp2
        exact bodyPost_ret (v := .tuple #[]) (by simp [results, Tryz.results95, go_sem]) rfl ⟨rfl, by rw [H1.out]; exact hm3, fr2.trans fr3⟩
      · have g3 : ((m.slot k).st == 0) = false := by simpa using g2
        have HS2 : Hid (m.emptyTo (k + 1) = none) := by show _ = _; rw [HS.out, g3]; rfl
        clear HS HE
        go_wp2
        exact ⟨⟨k + 1, by omega, by go_num, HS2.out, by first | rfl | trivial⟩, by simp [intOf]; omega⟩
    · have : k = 6 := by omega
      subst this
      have H1 : Hid (m.startOne = m) := by show _ = _; rw [H0.out, HE.out]
      go_wp2
      exact bodyPost_end (v := .tuple #[]) (by simp [results, Tryz.results95, go_sem]) rfl ⟨rfl, by rw [H1.out]; exact h, Fr.refl h.clean⟩

set_option maxRecDepth 100000 in
set_option maxHeartbeats 2000000 in
theorem startMissing_any (h : FMem o q w b m sv rv) :
    Calls Tryz.prog 65 #[.pointer (some ⟨b, 0, none⟩)] w fun r w' => r = .returned (.tuple #[]) ∧ FMem o q w' b m.startMissing sv rv ∧ Fr q o w o w' := by
  have hu := m.usedTo_bd 6
  have hc : Hid (∀ (w' : World), FMem o q w' b m sv rv → Calls Tryz.prog 93 #[.pointer (some ⟨b, 0, none⟩)] w' fun r w'' => r = .returned (.int .i64 (m.usedTo 6)) ∧ Below w'.heap.size w' w'') := fun w' h' => used_any h'
  have HE : Hid (m.startMissing = m.startN (m.set.ch - m.usedTo 6).toNat) := startN_eq _ _ _ rfl
  generalize m.usedTo 6 = u at *
  go_enter Tryz.func65, Tryz.ntmps65
  go_wp2_with fail
  refine (hc.out _ h).mono ?_
  rintro e w1 ⟨rfl, hb1⟩
  have hm1 := h.below hb1
  have fr1 := Fr.of_below (q := q) h.clean hb1
  clear h hb1
  go_wp2
  go_loopw [2] (fun c w' => ∃ n : Nat, (n = 0 ∨ u + n ≤ m.set.ch) ∧ c = .int .i64 (u + n) ∧ FMem o q w' b (m.startN n) sv rv ∧ Fr q o w o w') (fun c _ => (m.set.ch - intOf c).toNat)
  case atStart => exact ⟨0, .inl rfl, by simp, hm1, fr1⟩
  case round =>
    obtain ⟨n, hn, rfl, hm, hfr⟩ := hrel
    clear hm1 fr1
    have ch := hm.chc
    rw [PM.startN_set] at ch
    have few := hm.few
    rw [PM.startN_set] at few
    by_cases hlt : u + n < m.set.ch
    · go_wp2_with fail
      refine (startOne_any hm).mono ?_
      rintro e w2 ⟨rfl, hm2, fr2⟩
      clear ch
      go_wp2
      exact ⟨⟨n + 1, .inr (by omega), by go_num, hm2, hfr.trans fr2⟩, by simp [intOf]; omega⟩
    · go_wp2
      refine bodyPost_end (v := .tuple #[]) (by simp [results, Tryz.results65, go_sem]) rfl ⟨rfl, ?_, hfr⟩
      rw [HE.out]
      have : (m.set.ch - u).toNat = n := by omega
      rw [this]; exact hm

/-- The place of the first that waits. -/
def firstW : List Req → Nat → Option Nat
  | [], _ => none
  | r :: l, k => cond (r.stage == 1) (some k) (firstW l (k + 1))

theorem firstW_drop (l : List Req) (k : Nat) (hk : k < l.length) : firstW (l.drop k) k = cond (l[k].stage == 1) (some k) (firstW (l.drop (k + 1)) (k + 1)) := by
  rw [List.drop_eq_getElem_cons hk]; rfl

def PM.fw (m : PM) : Option Nat := firstW m.req 0
def fwV : Option Nat → Value
  | none => .tuple #[.int .i64 0, .bool false]
  | some k => .tuple #[.int .i64 k, .bool true]

theorem reqCells_get (l : List Req) (k : Nat) (hk : k < l.length) : (reqCells l)[k * 4]? = some (.int .i64 l[k].conn) ∧ (reqCells l)[k * 4 + 1]? = some (.int .i64 l[k].id) ∧ (reqCells l)[k * 4 + 2]? = some (.int .i64 l[k].stage) ∧ (reqCells l)[k * 4 + 3]? = some (.string l[k].body) := by
  induction l generalizing k with
  | nil => simp at hk
  | cons r l ih =>
    cases k with
    | zero => simp [reqCells, Req.cells]
    | succ k =>
      have := ih k (by simpa using hk)
      have e : reqCells (r :: l) = .int .i64 r.conn :: .int .i64 r.id :: .int .i64 r.stage :: .string r.body :: reqCells l := by simp [reqCells, Req.cells]
      rw [e, show (k + 1) * 4 = k * 4 + 1 + 1 + 1 + 1 from by omega]
      simpa using this

theorem reqCells_length (l : List Req) : (reqCells l).length = l.length * 4 := by
  induction l with
  | nil => rfl
  | cons r l ih => simp [reqCells, Req.cells] at *; omega

theorem req_cells (h : FMem o q w b m sv rv) (k : Nat) (hk : k < m.req.length) : ∃ g c, rv = .slice (some ⟨g, 0, none⟩) m.req.length c ∧ g < w.heap.size ∧ g ≠ b ∧ o g = (q, 6) ∧
    w.cell? ⟨g, k * 4, none⟩ = some (.int .i64 m.req[k].conn) ∧ w.cell? ⟨g, k * 4 + 1, none⟩ = some (.int .i64 m.req[k].id) ∧ w.cell? ⟨g, k * 4 + 2, none⟩ = some (.int .i64 m.req[k].stage) ∧ w.cell? ⟨g, k * 4 + 3, none⟩ = some (.string m.req[k].body) := by
  obtain ⟨h1, h2⟩ := h.reqs
  obtain ⟨g, c, rfl, -, hlt⟩ := h1.form (by omega)
  have := reqCells_get m.req k hk
  refine ⟨g, c, rfl, hlt, ?_, h2 g rfl, ?_⟩
  · rintro rfl; have := h2 g rfl; rw [h.tag] at this; simp at this
  · rw [h1.cellAt _ (by omega), h1.cellAt _ (by omega), h1.cellAt _ (by omega), h1.cellAt _ (by omega)]
    exact this

end
end Go.Proofs.YtlafkpaljibonaaGreat
