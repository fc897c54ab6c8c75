import Derived.Test.YtmjnengplfoiiaaGreatJ2
namespace Go.Proofs.YtmjnengplfoiiaaGreat
open Go.RowKit

/-- The document's state, as a plain value. -/
structure RLine where
  op : Bool
  come : ByteArray
  took : Nat
  sent : List Rec

structure RSlot where
  st : Int
  served : Int
  since : Int
  old : Bool
  key : Nat

structure RKey where
  conn : Int
  id : Int
  body : ByteArray
  is : Int

structure RM where
  set : Cfg
  time : Int
  line : Nat → RLine
  slot : Nat → RSlot
  keys : List RKey
  queue : List Nat

def RLine.cells (c : RLine) (v : Value) : List Value := [.bool c.op, .string c.come, .int .i64 c.took, v]
def RSlot.cells (s : RSlot) : List Value := [.int .i64 s.st, .int .i64 s.served, .int .i64 s.since, .bool s.old, .int .i64 s.key]
def RKey.cells (r : RKey) : List Value := [.int .i64 r.conn, .int .i64 r.id, .string r.body, .int .i64 r.is]
def rkeyCells (l : List RKey) : List Value := l.flatMap RKey.cells
def numCells (l : List Nat) : List Value := l.map fun (n : Nat) => Value.int .i64 (n : Int)

def wcells (m : RM) (lv : Nat → Value) (kv qv : Value) : List Value :=
  m.set.cells ++ .int .i64 m.time :: ((m.line 0).cells (lv 0) ++ ((m.line 1).cells (lv 1) ++ ((m.line 2).cells (lv 2) ++ ((m.line 3).cells (lv 3) ++
    ((m.slot 0).cells ++ ((m.slot 1).cells ++ ((m.slot 2).cells ++ ((m.slot 3).cells ++ ((m.slot 4).cells ++ ((m.slot 5).cells ++ [kv, qv]))))))))))

structure RMem (o : Nat → Tag) (q : Nat) (w : World) (b : Nat) (m : RM) (lv : Nat → Value) (kv qv : Value) : Prop where
  clean : Clean o w
  tag : o b = (q, 1)
  blk : Blk w b 75 (wcells m lv kv qv)
  sent : ∀ k, k < 4 → Row o w (q, 2 + k) 101 3 (lv k) (m.line k).sent.length (rowOf (m.line k).sent)
  keys : Row o w (q, 6) 98 4 kv m.keys.length (rkeyCells m.keys)
  queue : Row o w (q, 7) 3 1 qv m.queue.length (numCells m.queue)

section
variable {o o' : Nat → Tag} {q q' : Nat} {w w' : World} {b : Nat} {m m' : RM} {lv : Nat → Value} {kv qv : Value}

theorem RMem.fr (h : RMem o q w b m lv kv qv) (hf : Fr q' o w o' w') (hq : q ≠ q') : RMem o' q w' b m lv kv qv :=
  ⟨hf.clean, (hf.tags b h.blk.lt).trans h.tag, h.blk.keep (hf.block b h.blk.lt (by rw [h.tag]; exact hq)),
   fun k hk => (h.sent k hk).fr hf hq, h.keys.fr hf hq, h.queue.fr hf hq⟩

theorem RMem.below (h : RMem o q w b m lv kv qv) (hf : Below w.heap.size w w') : RMem o q w' b m lv kv qv :=
  ⟨h.clean.le hf.size, h.tag, h.blk.below hf, fun k hk => (h.sent k hk).below hf, h.keys.below hf, h.queue.below hf⟩

theorem RMem.alloc (h : RMem o q w b m lv kv qv) (ob : Obj) : RMem o q (w.alloc ob) b m lv kv qv := h.below ((Below.refl _ _).alloc (Nat.le_refl _) ob)
theorem RMem.drew (h : RMem o q w b m lv kv qv) : RMem o q w.drew b m lv kv qv := h.below (Below.refl _ _).drew

/-- The struct itself was written. -/
theorem RMem.put (h : RMem o q w b m lv kv qv) (hb : Blk w' b 75 (wcells m' lv kv qv)) (hs : w'.heap.size = w.heap.size) (ho : ∀ g, g ≠ b → w'.heap[g]? = w.heap[g]?)
    (h1 : ∀ k, k < 4 → (m'.line k).sent = (m.line k).sent) (h2 : m'.keys = m.keys) (h3 : m'.queue = m.queue) : RMem o q w' b m' lv kv qv :=
  ⟨h.clean.le (Nat.le_of_eq hs.symm), h.tag, hb,
   fun k hk => by rw [h1 k hk]; exact (h.sent k hk).keep (fun _ _ => rfl) fun g _ hg => ho g fun e => by rw [e, h.tag] at hg; simp at hg; omega,
   by rw [h2]; exact h.keys.keep (fun _ _ => rfl) fun g _ hg => ho g fun e => by rw [e, h.tag] at hg; simp at hg,
   by rw [h3]; exact h.queue.keep (fun _ _ => rfl) fun g _ hg => ho g fun e => by rw [e, h.tag] at hg; simp at hg⟩

theorem RMem.fr_put (h : RMem o q w b m lv kv qv) (h' : RMem o q w' b m' lv kv qv) (h1 : w'.os = w.os) (h2 : w'.tape = w.tape) (h3 : w'.output = w.output) (h4 : w'.heap.size = w.heap.size)
    (hb : ∀ g, g ≠ b → w'.heap[g]? = w.heap[g]?) : Fr q o w o w' :=
  ⟨h1, h2, h3, Nat.le_of_eq h4.symm, h'.clean, fun _ _ => rfl, fun g _ hg => hb g (by rintro rfl; rw [h.tag] at hg; exact hg rfl)⟩

theorem RMem.linec (h : RMem o q w b m lv kv qv) {k : Nat} (hk : k < 4) :
    w.cell? ⟨b, 8 + k * 4, none⟩ = some (.bool (m.line k).op) ∧ w.cell? ⟨b, 8 + k * 4 + 1, none⟩ = some (.string (m.line k).come) ∧ w.cell? ⟨b, 8 + k * 4 + 2, none⟩ = some (.int .i64 (m.line k).took) ∧ w.cell? ⟨b, 8 + k * 4 + 3, none⟩ = some (lv k) := by
  refine ⟨?_, ?_, ?_, ?_⟩ <;> (apply h.blk.cell; rcases k with _ | _ | _ | _ | k <;> first | rfl | omega)
theorem RMem.slotc (h : RMem o q w b m lv kv qv) {k : Nat} (hk : k < 6) :
    w.cell? ⟨b, 24 + k * 5, none⟩ = some (.int .i64 (m.slot k).st) ∧ w.cell? ⟨b, 24 + k * 5 + 1, none⟩ = some (.int .i64 (m.slot k).served) ∧ w.cell? ⟨b, 24 + k * 5 + 2, none⟩ = some (.int .i64 (m.slot k).since) ∧
    w.cell? ⟨b, 24 + k * 5 + 3, none⟩ = some (.bool (m.slot k).old) ∧ w.cell? ⟨b, 24 + k * 5 + 4, none⟩ = some (.int .i64 (m.slot k).key) := by
  refine ⟨?_, ?_, ?_, ?_, ?_⟩ <;> (apply h.blk.cell; rcases k with _ | _ | _ | _ | _ | _ | k <;> first | rfl | omega)
theorem RMem.timec (h : RMem o q w b m lv kv qv) : w.cell? ⟨b, 7, none⟩ = some (.int .i64 m.time) := h.blk.cell rfl
theorem RMem.keysv (h : RMem o q w b m lv kv qv) : w.cell? ⟨b, 54, none⟩ = some kv := h.blk.cell rfl
theorem RMem.queuev (h : RMem o q w b m lv kv qv) : w.cell? ⟨b, 55, none⟩ = some qv := h.blk.cell rfl
theorem RMem.chc (h : RMem o q w b m lv kv qv) : w.cell? ⟨b, 0, none⟩ = some (.int .i64 m.set.ch) := h.blk.cell rfl
theorem RMem.dync (h : RMem o q w b m lv kv qv) : w.cell? ⟨b, 1, none⟩ = some (.bool m.set.dyn) := h.blk.cell rfl
theorem RMem.blc (h : RMem o q w b m lv kv qv) : w.cell? ⟨b, 6, none⟩ = some (.int .i64 m.set.bl) := h.blk.cell rfl
theorem RMem.frozen (h : RMem o q w b m lv kv qv) (k : Nat) : w.frozen? ⟨b, k, none⟩ = false := h.blk.frozen k

theorem wcells_slot (m : RM) (lv : Nat → Value) (kv qv : Value) (k : Nat) (hk : k < 6) (s : RSlot) :
    (((((wcells m lv kv qv).set (24 + k * 5) (.int .i64 s.st)).set (24 + k * 5 + 1) (.int .i64 s.served)).set (24 + k * 5 + 2) (.int .i64 s.since)).set (24 + k * 5 + 3) (.bool s.old)).set (24 + k * 5 + 4) (.int .i64 s.key) =
      wcells { m with slot := upd m.slot k s } lv kv qv := by
  rcases k with _ | _ | _ | _ | _ | _ | k <;> first | rfl | omega

/-- A slot's five cells are written. -/
theorem RMem.putSlot (h : RMem o q w b m lv kv qv) {k : Nat} (hk : k < 6) (s : RSlot) :
    let w' := ((((w.setCell ⟨b, 24 + k * 5, none⟩ (.int .i64 s.st)).setCell ⟨b, 24 + k * 5 + 1, none⟩ (.int .i64 s.served)).setCell ⟨b, 24 + k * 5 + 2, none⟩ (.int .i64 s.since)).setCell ⟨b, 24 + k * 5 + 3, none⟩ (.bool s.old)).setCell ⟨b, 24 + k * 5 + 4, none⟩ (.int .i64 s.key)
    RMem o q w' b { m with slot := upd m.slot k s } lv kv qv ∧ Fr q o w o w' := by
  intro w'
  have hoth : ∀ g, g ≠ b → w'.heap[g]? = w.heap[g]? := by
    intro g hg
    simp only [w']
    repeat rw [Below.heap_setCell _ _ _ g (by simpa using hg)]
  have hm : RMem o q w' b { m with slot := upd m.slot k s } lv kv qv := by
    refine h.put ?_ (by simp [w', World.setCell]) hoth (fun _ _ => rfl) rfl rfl
    rw [← wcells_slot m lv kv qv k hk s]
    exact ((((h.blk.set _ _).set _ _).set _ _).set _ _).set _ _
  exact ⟨hm, h.fr_put hm (by simp [w', World.setCell]) (by simp [w', World.setCell]) (by simp [w', World.setCell]) (by simp [w', World.setCell]) hoth⟩

theorem rkeyCells_get (l : List RKey) (k : Nat) (hk : k < l.length) : (rkeyCells l)[k * 4]? = some (.int .i64 l[k].conn) ∧ (rkeyCells l)[k * 4 + 1]? = some (.int .i64 l[k].id) ∧ (rkeyCells l)[k * 4 + 2]? = some (.string l[k].body) ∧ (rkeyCells l)[k * 4 + 3]? = some (.int .i64 l[k].is) := by
  induction l generalizing k with
  | nil => simp at hk
  | cons r l ih =>
    cases k with
    | zero => simp [rkeyCells, RKey.cells]
    | succ k =>
      have := ih k (by simpa using hk)
      have e : rkeyCells (r :: l) = .int .i64 r.conn :: .int .i64 r.id :: .string r.body :: .int .i64 r.is :: rkeyCells l := by simp [rkeyCells, RKey.cells]
      rw [e, show (k + 1) * 4 = k * 4 + 1 + 1 + 1 + 1 from by omega]
      simpa using this

/-- The list of keys as a value, its rows by their numbers. -/
theorem RMem.klist (h : RMem o q w b m lv kv qv) : ∃ ao c, kv = .slice ao m.keys.length c ∧ (m.keys.length : Int) ≤ 9223372036854775807 ∧
    ∀ k (hk : k < m.keys.length), ∃ g, ao = some ⟨g, 0, none⟩ ∧ g < w.heap.size ∧ g ≠ b ∧ o g = (q, 6) ∧ (∀ j, w.frozen? ⟨g, j, none⟩ = false) ∧
    w.cell? ⟨g, k * 4, none⟩ = some (.int .i64 m.keys[k].conn) ∧ w.cell? ⟨g, k * 4 + 1, none⟩ = some (.int .i64 m.keys[k].id) ∧ w.cell? ⟨g, k * 4 + 2, none⟩ = some (.string m.keys[k].body) ∧ w.cell? ⟨g, k * 4 + 3, none⟩ = some (.int .i64 m.keys[k].is) := by
  obtain ⟨ao, c, hv, hn, hg0⟩ := h.keys.form
  refine ⟨ao, c, hv, hn, fun k hk => ?_⟩
  obtain ⟨g, rfl, ho, hlt⟩ := hg0 (by omega)
  have h1 := h.keys.1
  rw [hv] at h1
  have := rkeyCells_get m.keys k hk
  refine ⟨g, rfl, hlt, ?_, ho, fun j => h1.frozenAt j, ?_⟩
  · rintro rfl; rw [h.tag] at ho; simp at ho
  · rw [h1.cellAt _ (by omega), h1.cellAt _ (by omega), h1.cellAt _ (by omega), h1.cellAt _ (by omega)]
    exact this

theorem RMem.qlist (h : RMem o q w b m lv kv qv) : ∃ ao c, qv = .slice ao m.queue.length c ∧ (m.queue.length : Int) ≤ 9223372036854775807 ∧
    ∀ k (hk : k < m.queue.length), ∃ g, ao = some ⟨g, 0, none⟩ ∧ g < w.heap.size ∧ g ≠ b ∧ o g = (q, 7) ∧ w.cell? ⟨g, k, none⟩ = some (.int .i64 m.queue[k]) := by
  obtain ⟨ao, c, hv, hn, hg0⟩ := h.queue.form
  refine ⟨ao, c, hv, hn, fun k hk => ?_⟩
  obtain ⟨g, rfl, ho, hlt⟩ := hg0 (by omega)
  have h1 := h.queue.1
  rw [hv] at h1
  refine ⟨g, rfl, hlt, ?_, ho, ?_⟩
  · rintro rfl; rw [h.tag] at ho; simp at ho
  · rw [h1.cellAt _ (by omega)]
    simp [numCells, List.getElem?_map, List.getElem?_eq_getElem hk]
end
end Go.Proofs.YtmjnengplfoiiaaGreat

namespace Go.Proofs.YtmjnengplfoiiaaGreat
open Go.RowKit

set_option maxRecDepth 100000 in
set_option maxHeartbeats 400000 in
theorem rIsConn_any (n : Int) (w : World) :
    Calls Tryz.prog 67 #[.int .i64 n] w fun r w' => r = .returned (.bool (isC n)) ∧ w' = w := by
  unfold isC
  go_enter Tryz.func67, Tryz.ntmps67
  go_wp2
  all_goals (go_ret; exact ⟨by simp [*] <;> omega, rfl⟩)

set_option maxRecDepth 100000 in
set_option maxHeartbeats 400000 in
theorem rIsSlot_any (n : Int) (w : World) :
    Calls Tryz.prog 70 #[.int .i64 n] w fun r w' => r = .returned (.bool (isS n)) ∧ w' = w := by
  unfold isS
  go_enter Tryz.func70, Tryz.ntmps70
  go_wp2
  all_goals (go_ret; exact ⟨by simp [*] <;> omega, rfl⟩)

set_option maxRecDepth 100000 in
set_option maxHeartbeats 2000000 in
theorem right_any (c : Cfg) (w : World) :
    Calls Tryz.prog 12 #[c.val] w fun r w' => r = .returned (.bool c.ok) ∧ Below w.heap.size w w' := by
  obtain ⟨ch, dyn, mn, mx, mr, tmo, bl⟩ := c
  simp only [Cfg.val, Cfg.ok]
  cases dyn
  all_goals
    go_enter Tryz.func12, Tryz.ntmps12
    go_wp2
    all_goals
      go_ret
      refine ⟨?_, (Below.refl _ _).alloc (Nat.le_refl _) _⟩
      congr 2
      first | (simp; omega) | (rw [Bool.eq_iff_iff]; simp; omega) | simp [*]

section
variable {o : Nat → Tag} {q : Nat} {w : World} {b : Nat} {m : RM} {lv : Nat → Value} {kv qv : Value}

/-- How many of the first k slots are in a state. -/
def RM.cntTo (m : RM) (st : Int) : Nat → Int
  | 0 => 0
  | k + 1 => m.cntTo st k + (cond ((m.slot k).st == st) 1 0)
def RM.cnt (m : RM) (st : Int) : Int := m.cntTo st 6

theorem RM.cntTo_bd (m : RM) (st : Int) (k : Nat) : 0 ≤ m.cntTo st k ∧ m.cntTo st k ≤ k := by
  induction k with
  | zero => simp [RM.cntTo]
  | succ k ih => simp only [RM.cntTo]; cases ((m.slot k).st == st) <;> simp <;> omega

set_option maxRecDepth 100000 in
set_option maxHeartbeats 1000000 in
theorem count_any (h : RMem o q w b m lv kv qv) (st : Int) :
    Calls Tryz.prog 62 #[.pointer (some ⟨b, 0, none⟩), .int .i64 st] w fun r w' => r = .returned (.int .i64 (m.cnt st)) ∧ w' = w := by
  unfold RM.cnt
  go_enter Tryz.func62, Tryz.ntmps62
  go_wp2
  go_loopw [5, 6] (fun c i w' => ∃ k : Nat, k ≤ 6 ∧ c = .int .i64 (m.cntTo st k) ∧ i = .int .i64 k ∧ w' = w) (fun _ i _ => 6 - (intOf i).toNat)
  case atStart => exact ⟨0, by omega, rfl, rfl, rfl⟩
  case round =>
    obtain ⟨k, hk, rfl, rfl, rfl⟩ := hrel
    by_cases hlt : k < 6
    · have hbd := m.cntTo_bd st k
      obtain ⟨c0, -⟩ := h.slotc hlt
      have HS : Hid (m.cntTo st (k + 1) = m.cntTo st k + (cond ((m.slot k).st == st) 1 0)) := rfl
      by_cases hs : (m.slot k).st = st
      · rw [hs] at c0
        go_wp2
        refine ⟨⟨k + 1, by omega, ?_, by go_num, by first | rfl | trivial⟩, by simp [intOf]; omega⟩
        rw [HS.out, hs]; simp
      · have hs2 : ((m.slot k).st == st) = false := by simpa using hs
        go_wp2
        refine ⟨⟨k + 1, by omega, ?_, by go_num, by first | rfl | trivial⟩, by simp [intOf]; omega⟩
        rw [HS.out, hs2]; simp
    · have : k = 6 := by omega
      subst this
      go_wp2
      go_ret
      exact ⟨rfl, rfl⟩

/-- The first slot in a state, from the place k on, of n. -/
def RM.fst (m : RM) (st : Int) (k : Nat) : Nat → Option Nat
  | 0 => none
  | n + 1 => cond ((m.slot k).st == st) (some k) (m.fst st (k + 1) n)
def RM.first (m : RM) (st : Int) : Option Nat := m.fst st 0 6
def plcI : Option Nat → Int
  | none => -1
  | some k => k

theorem RM.fst_some (m : RM) (st : Int) (k n a : Nat) (h : m.fst st k n = some a) : k ≤ a ∧ a < k + n ∧ (m.slot a).st = st := by
  induction n generalizing k with
  | zero => simp [RM.fst] at h
  | succ n ih =>
    simp only [RM.fst] at h
    cases hr : ((m.slot k).st == st)
    · rw [hr] at h
      have := ih (k + 1) h
      omega
    · rw [hr] at h
      simp only [cond_true, Option.some.injEq] at h
      subst h
      exact ⟨Nat.le_refl _, by omega, by simpa using hr⟩

set_option maxRecDepth 100000 in
set_option maxHeartbeats 1000000 in
theorem first_slot (h : RMem o q w b m lv kv qv) (st : Int) :
    Calls Tryz.prog 65 #[.pointer (some ⟨b, 0, none⟩), .int .i64 st] w fun r w' => r = .returned (.int .i64 (plcI (m.first st))) ∧ w' = w := by
  unfold RM.first
  go_enter Tryz.func65, Tryz.ntmps65
  go_wp2
  go_loopw [5] (fun i w' => ∃ k : Nat, k ≤ 6 ∧ m.fst st 0 6 = m.fst st k (6 - k) ∧ i = .int .i64 k ∧ w' = w) (fun i _ => 6 - (intOf i).toNat)
  case atStart => exact ⟨0, by omega, rfl, rfl, rfl⟩
  case round =>
    obtain ⟨k, hk, hf, rfl, rfl⟩ := hrel
    have HF : Hid _ := hf
    clear hf
    by_cases hlt : k < 6
    · obtain ⟨c0, -⟩ := h.slotc hlt
      have HS : Hid (m.fst st k (6 - k) = cond ((m.slot k).st == st) (some k) (m.fst st (k + 1) (6 - (k + 1)))) := by
        rw [show 6 - k = (6 - (k + 1)) + 1 from by omega]; rfl
      by_cases hs : (m.slot k).st = st
      · rw [hs] at c0
        go_wp2
        go_ret
        refine ⟨?_, rfl⟩
        rw [HF.out, HS.out, hs]; simp [plcI]
      · have hs2 : ((m.slot k).st == st) = false := by simpa using hs
        go_wp2
        refine ⟨⟨k + 1, by omega, ?_, by go_num, by first | rfl | trivial⟩, by simp [intOf]; omega⟩
        rw [HF.out, HS.out, hs2]; simp
    · have : k = 6 := by omega
      subst this
      go_wp2
      go_ret
      refine ⟨?_, rfl⟩
      rw [HF.out]; simp [plcI, RM.fst]

def startSlot : RSlot := ⟨1, 0, 0, false, 0⟩
def RM.starts (m : RM) : RM :=
  match m.first 0 with
  | some k => { m with slot := upd m.slot k startSlot }
  | none => m

set_option maxRecDepth 100000 in
set_option maxHeartbeats 1000000 in
theorem starts_any (h : RMem o q w b m lv kv qv) :
    Calls Tryz.prog 63 #[.pointer (some ⟨b, 0, none⟩)] w fun r w' => r = .returned (.tuple #[]) ∧ RMem o q w' b m.starts lv kv qv ∧ Fr q o w o w' := by
  have hc : Hid (∀ w', RMem o q w' b m lv kv qv → Calls Tryz.prog 65 #[.pointer (some ⟨b, 0, none⟩), .int .i64 0] w' fun r w'' => r = .returned (.int .i64 (plcI (m.first 0))) ∧ w'' = w') := fun w' h' => first_slot h' 0
  unfold RM.starts
  cases hf : m.first 0 with
  | none =>
    rw [hf] at hc
    go_enter Tryz.func63, Tryz.ntmps63
    go_wp2_with fail
    refine (hc.out _ h).mono ?_
    rintro e w1 ⟨rfl, rfl⟩
    unfold plcI
    go_wp2
    exact bodyPost_end (v := .tuple #[]) (by simp [results, Tryz.results63, go_sem]) rfl ⟨rfl, h, Fr.refl h.clean⟩
  | some k =>
    rw [hf] at hc
    obtain ⟨-, hk, -⟩ := m.fst_some 0 0 6 k hf
    have hk : k < 6 := by omega
    obtain ⟨c0, c1, c2, c3, c4⟩ := h.slotc hk
    have fz := h.frozen
    clear hf
    go_enter Tryz.func63, Tryz.ntmps63
    go_wp2_with fail
    refine (hc.out _ h).mono ?_
    rintro e w1 ⟨rfl, rfl⟩
    unfold plcI
    go_wp2
    exact bodyPost_end (v := .tuple #[]) (by simp [results, Tryz.results63, go_sem]) rfl ⟨rfl, h.putSlot hk startSlot⟩

set_option maxRecDepth 100000 in
set_option maxHeartbeats 400000 in
theorem rTime_any (h : RMem o q w b m lv kv qv) :
    Calls Tryz.prog 19 #[.pointer (some ⟨b, 0, none⟩)] w fun r w' => r = .returned (.int .i64 m.time) ∧ w' = w := by
  have h1 := h.timec
  go_enter Tryz.func19, Tryz.ntmps19
  go_wp2
  go_ret
  exact ⟨rfl, rfl⟩

def RM.open_ (m : RM) (n : Int) : Bool := isC n && (m.line n.toNat).op

set_option maxRecDepth 100000 in
set_option maxHeartbeats 400000 in
theorem rOpen_any (h : RMem o q w b m lv kv qv) (n : Int) :
    Calls Tryz.prog 32 #[.pointer (some ⟨b, 0, none⟩), .int .i64 n] w fun r w' => r = .returned (.bool (m.open_ n)) ∧ w' = w := by
  rcases isC_cases n with h0 | ⟨h0, k, hk, rfl⟩
  · unfold RM.open_
    go_enter Tryz.func32, Tryz.ntmps32
    go_wp2_with fail
    refine (rIsConn_any _ _).mono ?_
    rintro e w1 ⟨rfl, rfl⟩
    rw [h0]
    go_wp2
    go_ret
    exact ⟨by simp [h0], rfl⟩
  · obtain ⟨h1, -⟩ := h.linec hk
    unfold RM.open_
    rw [h0]
    simp only [Bool.true_and, Int.toNat_natCast]
    go_enter Tryz.func32, Tryz.ntmps32
    go_wp2_with fail
    refine (rIsConn_any _ _).mono ?_
    rintro e w1 ⟨rfl, rfl⟩
    rw [h0]
    go_wp2
    go_ret
    exact ⟨rfl, rfl⟩

def RM.stE (m : RM) (n st : Int) : Int := cond (isS n) (cond ((m.slot n.toNat).st == st) 0 6) 5

set_option maxRecDepth 100000 in
set_option maxHeartbeats 400000 in
theorem rState_any (h : RMem o q w b m lv kv qv) (n st : Int) :
    Calls Tryz.prog 72 #[.pointer (some ⟨b, 0, none⟩), .int .i64 n, .int .i64 st] w fun r w' => r = .returned (.int .i64 (m.stE n st)) ∧ w' = w := by
  unfold RM.stE
  rcases isS_cases n with h0 | ⟨h0, k, hk, rfl⟩
  · simp only [h0, cond_false]
    go_enter Tryz.func72, Tryz.ntmps72
    go_wp2_with fail
    refine (rIsSlot_any _ _).mono ?_
    rintro e w1 ⟨rfl, rfl⟩
    rw [h0]
    go_wp2
    go_ret
    exact ⟨rfl, rfl⟩
  · obtain ⟨c0, -⟩ := h.slotc hk
    simp only [h0, cond_true, Int.toNat_natCast]
    generalize (m.slot k).st = s at *
    by_cases hs : s = st
    · subst hs
      simp only [beq_self_eq_true, cond_true]
      go_enter Tryz.func72, Tryz.ntmps72
      go_wp2_with fail
      refine (rIsSlot_any _ _).mono ?_
      rintro e w1 ⟨rfl, rfl⟩
      rw [h0]
      go_wp2
      go_ret
      exact ⟨rfl, rfl⟩
    · have hs2 : (s == st) = false := by simpa using hs
      simp only [hs2, cond_false]
      go_enter Tryz.func72, Tryz.ntmps72
      go_wp2_with fail
      refine (rIsSlot_any _ _).mono ?_
      rintro e w1 ⟨rfl, rfl⟩
      rw [h0]
      go_wp2
      go_ret
      exact ⟨rfl, rfl⟩
end
end Go.Proofs.YtmjnengplfoiiaaGreat

namespace Go.Proofs.YtmjnengplfoiiaaGreat
open Go.RowKit

def noKey : RKey := ⟨0, 0, ⟨#[]⟩, 3⟩
def RM.key (m : RM) (i : Nat) : RKey := m.keys.getD i noKey
theorem RM.key_eq (m : RM) {i : Nat} (h : i < m.keys.length) : m.key i = m.keys[i] := by
  simp [RM.key, List.getD, List.getElem?_eq_getElem h]

structure RM.wf (m : RM) : Prop where
  q : ∀ i ∈ m.queue, i < m.keys.length
  s : ∀ k, k < 6 → (m.slot k).st = 3 → (m.slot k).key < m.keys.length
  ch : m.set.ch ≤ 6

def RM.back (m : RM) : List Nat := m.queue.filter fun i => (m.key i).is == 1
def RM.live (m : RM) (k : Nat) : Bool := (m.slot k).st == 3 && (m.key (m.slot k).key).is == 2

theorem numCells_append (a b : List Nat) : numCells (a ++ b) = numCells a ++ numCells b := by simp [numCells]
theorem numCells_one (l : List Nat) : ∀ u ∈ numCells l, u.oneCell' = true := by
  intro u hu
  simp only [numCells, List.mem_map] at hu
  obtain ⟨r, _, rfl⟩ := hu
  rfl
theorem news_num (W : World) (g : Nat) (hg : W.heap.size = g) (x : Nat) (T : TypeId) : ∀ j u, (numCells [x])[j]? = some u → (W.alloc (.cells #[.int .i64 x] T)).cell? ((⟨g, 0, none⟩ : Addr).add j) = some u := by
  subst hg
  exact World.news_of_block (heap_alloc_new W _)

theorem below_dN {B : Nat} {w w' : World} {m : Nat} (h : Below B w w') : Below B w (w'.drewN m) := ⟨h.os, h.tape, h.output, h.size, h.block⟩

theorem infoInt : (Tryz.prog.info? 3).map (fun i => (i.zero, i.size, i.bytes)) = some (some (.int .i64 0), 1, 8) := by kernel_rfl

section
variable {o : Nat → Tag} {q : Nat} {w : World} {b : Nat} {m : RM} {lv : Nat → Value} {kv qv : Value}

set_option maxRecDepth 100000 in
set_option maxHeartbeats 2000000 in
theorem rback_any (h : RMem o q w b m lv kv qv) (hwf : m.wf) (hmax : m.queue.length ≤ 1000000000000) :
    Calls Tryz.prog 64 #[.pointer (some ⟨b, 0, none⟩)] w fun r w' => ∃ v, r = .returned v ∧ w'.ownsRow w.heap.size 3 1 v m.back.length (numCells m.back) ∧ Below w.heap.size w w' := by
  obtain ⟨i0, hi, hz0, hz1, hz2⟩ := info_parts infoInt
  obtain ⟨ao, c, rfl, hn, hrow⟩ := h.qlist
  obtain ⟨ak, ck, rfl, hkn, hkrow⟩ := h.klist
  have h1 := h.queuev
  have h2 := h.keysv
  have hbl := h.blk.lt
  go_enter Tryz.func64, Tryz.ntmps64
  go_wp2
  go_loopw [3, 4] (fun v i w' => ∃ k : Nat, k ≤ m.queue.length ∧ i = .int .i64 k ∧ w'.ownsRow w.heap.size 3 1 v ((m.queue.take k).filter fun i => (m.key i).is == 1).length (numCells ((m.queue.take k).filter fun i => (m.key i).is == 1)) ∧ Below w.heap.size w w') (fun _ i _ => m.queue.length - (intOf i).toNat)
  case atStart => exact ⟨0, by omega, rfl, World.ownsRow_nil _ _ _ _, Below.refl _ _⟩
  case round =>
    obtain ⟨k, hk, rfl, hown, hb⟩ := hrel
    have hbase := hb.size
    rw [← hb.cell (by exact hbl)] at h1 h2
    by_cases hlt : k < m.queue.length
    · obtain ⟨g, rfl, hg, -, -, c0⟩ := hrow k hlt
      have hqi := hwf.q m.queue[k] (List.getElem_mem hlt)
      obtain ⟨gk, rfl, hgk, -, -, -, -, -, -, k3⟩ := hkrow _ hqi
      have hst := List.take_succ_eq_append_getElem hlt
      have HS : Hid _ := hst
      have hll : ((m.queue.take k).filter fun i => (m.key i).is == 1).length ≤ k := Nat.le_trans (List.length_filter_le _ _) (by rw [List.length_take]; omega)
      clear hst hrow hkrow
      rw [← m.key_eq hqi] at k3
      rw [← hb.cell (by exact hg)] at c0
      rw [← hb.cell (by exact hgk)] at k3
      generalize hacc : List.filter (fun i => (m.key i).is == 1) (List.take k m.queue) = acc at *
      have HA : Hid _ := hacc
      clear hacc
      generalize m.queue[k] = x at *
      by_cases h1 : (m.key x).is = 1
      · rw [h1] at k3
        go_wp2
        go_quiet (fail)
        have hbd : Below w.heap.size w (wr.drewN nq) := below_dN hb
        have hownd : (wr.drewN nq).ownsRow w.heap.size 3 1 u3 acc.length (numCells acc) := hown
        have c0d : (wr.drewN nq).cell? ⟨g, k, none⟩ = some (.int .i64 (x : Int)) := c0
        have q0d : (wr.drewN nq).cell? ⟨b, 55, none⟩ = some (.slice (some ⟨g, 0, none⟩) m.queue.length c) := by assumption
        have hbased : w.heap.size ≤ (wr.drewN nq).heap.size := hbase
        clear hown c0 k3 h2 hb hbase
        generalize wr.drewN nq = wd at *
        go_wp2_with (at_builtin; refine wpList_append_own _ rfl _ _ 73 rfl w.heap.size 3 i0 (.int .i64 0) 1 8 Tryz.underlying73 hi hz0 hz1 hz2 rfl (by omega) u3 acc.length (numCells acc) rfl ?hown ⟨wd.heap.size, 0, none⟩ 1 1 (numCells [x]) rfl rfl ?hnews ?h1 ?h63 ?hbytes ?hbase ?_)
        case hown => exact hownd.alloc _
        case hnews => exact news_num _ _ (by simp) _ _
        case h1 => exact numCells_one _
        case h63 => unfold maxLen; omega
        case hbytes => omega
        case hbase => simp; omega
        intro v' w2 hown2 hgrow _
        go_wp2
        refine ⟨⟨k + 1, by omega, by go_num, ?_, ?_⟩, by simp [intOf]; omega⟩
        · rw [HS.out, List.filter_append, show List.filter (fun i => (m.key i).is == 1) [x] = [x] from by simp [List.filter, h1], HA.out, numCells_append]
          simpa using hown2
        · refine (hbd.alloc hbased _).grown hgrow (by simp; omega) ?_
          intro y hy
          exact (hownd.lt y hy).1
      · have h2 : ((m.key x).is == 1) = false := by simpa using h1
        go_wp2
        go_quiet (fail)
        go_wp2
        refine ⟨⟨k + 1, by omega, by go_num, ?_, below_dN hb⟩, by simp [intOf]; omega⟩
        rw [HS.out, List.filter_append, show List.filter (fun i => (m.key i).is == 1) [x] = [] from by simp [List.filter, h2], HA.out, List.append_nil]
        exact hown
    · have : k = m.queue.length := by omega
      subst this
      go_wp2
      go_ret
      rw [List.take_length] at hown
      exact ⟨_, rfl, hown, hb⟩

set_option maxRecDepth 100000 in
set_option maxHeartbeats 1000000 in
theorem live_any (h : RMem o q w b m lv kv qv) (hwf : m.wf) (k : Nat) (hk : k < 6) :
    Calls Tryz.prog 55 #[.pointer (some ⟨b, 0, none⟩), .int .i64 k] w fun r w' => r = .returned (.bool (m.live k)) ∧ Below w.heap.size w w' := by
  obtain ⟨c0, -, -, -, c4⟩ := h.slotc hk
  obtain ⟨ak, ck, rfl, hkn, hkrow⟩ := h.klist
  have h2 := h.keysv
  unfold RM.live
  by_cases h3 : (m.slot k).st = 3
  · have hkey := hwf.s k hk h3
    obtain ⟨gk, rfl, hgk, -, -, -, -, -, -, k3⟩ := hkrow _ hkey
    rw [← m.key_eq hkey] at k3
    rw [h3] at c0
    simp only [h3, beq_self_eq_true, Bool.true_and]
    clear hkrow h3
    generalize (m.slot k).key = key at *
    generalize (m.key key).is = is at *
    have g1 : decide ((3 : Int) = 3) = true := by simp
    go_enter Tryz.func55, Tryz.ntmps55
    go_wp2
    go_quiet (fail)
    go_wp2
    go_ret
    exact ⟨by first | rfl | simp, below_dN (Below.refl _ _)⟩
  · have h3' : ((m.slot k).st == 3) = false := by simpa using h3
    simp only [h3', Bool.false_and]
    generalize (m.slot k).st = st at *
    have g1 : decide (st = 3) = false := by simpa using h3
    clear hkrow
    go_enter Tryz.func55, Tryz.ntmps55
    go_wp2
    go_quiet (fail)
    go_wp2
    go_ret
    exact ⟨by first | rfl | simp, below_dN (Below.refl _ _)⟩

end
end Go.Proofs.YtmjnengplfoiiaaGreat

namespace Go.Proofs.YtmjnengplfoiiaaGreat
open Go.RowKit

def RM.connOf (m : RM) (k : Nat) : Int := cond (m.live k) (m.key (m.slot k).key).conn (-1)
def RM.idOf (m : RM) (k : Nat) : Int := cond (m.live k) (m.key (m.slot k).key).id 0
def RM.slotV (m : RM) (n : Int) : Value := cond (isS n) (.agg #[.int .i64 (m.slot n.toNat).st, .bool (m.slot n.toNat).old, .int .i64 (m.slot n.toNat).served, .int .i64 (m.slot n.toNat).since, .int .i64 (m.connOf n.toNat), .int .i64 (m.idOf n.toNat)]) slotNil

theorem three_blks (w : World) (A B C : List Value) (T1 T2 T3 : TypeId) :
    let W := ((w.alloc (.cells A.toArray T1)).alloc (.cells B.toArray T2)).alloc (.cells C.toArray T3)
    Blk W w.heap.size T1 A ∧ Blk W (w.heap.size + 1) T2 B ∧ Blk W (w.heap.size + 1 + 1) T3 C ∧ Below w.heap.size w W := by
  intro W
  have e1 : (w.alloc (.cells A.toArray T1)).heap.size = w.heap.size + 1 := by simp
  have e2 : ((w.alloc (.cells A.toArray T1)).alloc (.cells B.toArray T2)).heap.size = w.heap.size + 1 + 1 := by simp
  have b1 := Blk.made w T1 A
  have b2 := Blk.made (w.alloc (.cells A.toArray T1)) T2 B
  have b3 := Blk.made ((w.alloc (.cells A.toArray T1)).alloc (.cells B.toArray T2)) T3 C
  rw [e1] at b2
  rw [e2] at b3
  have s1 := fun (x : World) (ob : Obj) => (Below.refl x.heap.size x).alloc (Nat.le_refl _) ob
  exact ⟨(b1.below (s1 _ _)).below (s1 _ _), b2.below (s1 _ _), b3, ((Below.refl _ _).alloc (Nat.le_refl _) _ |>.alloc (by simp) _).alloc (by simp; omega) _⟩

section
variable {o : Nat → Tag} {q : Nat} {w : World} {b : Nat} {m : RM} {lv : Nat → Value} {kv qv : Value}

set_option maxRecDepth 100000 in
set_option maxHeartbeats 2000000 in
theorem rSlot_any (h : RMem o q w b m lv kv qv) (hwf : m.wf) (hlv : ∀ k, k < 6 → m.live k = false) (n : Int) :
    Calls Tryz.prog 36 #[.pointer (some ⟨b, 0, none⟩), .int .i64 n] w fun r w' => r = .returned (.tuple #[m.slotV n, .int .i64 (slotE n)]) ∧ Below w.heap.size w w' := by
  rcases isS_cases n with h0 | ⟨h0, k, hk, rfl⟩
  · simp only [RM.slotV, slotE, h0, cond_false]
    go_enter Tryz.func36, Tryz.ntmps36
    go_wp2_with fail
    refine (rIsSlot_any _ _).mono ?_
    rintro e w1 ⟨rfl, rfl⟩
    rw [h0]
    go_wp2
    exact bodyPost_ret (v := .tuple #[slotNil, .int .i64 5]) (by simp [results, Tryz.results36, go_sem, slotNil]) rfl ⟨rfl, (Below.refl _ _).alloc (Nat.le_refl _) _⟩
  · simp only [RM.slotV, slotE, h0, cond_true, Int.toNat_natCast]
    have hA := fun ob => (h.alloc ob).slotc hk
    have c0 := fun ob => (hA ob).1
    have c1 := fun ob => (hA ob).2.1
    have c2 := fun ob => (hA ob).2.2.1
    have c3 := fun ob => (hA ob).2.2.2.1
    have c4 := fun ob => (hA ob).2.2.2.2
    clear hA
    cases hlive : m.live k
    · simp only [RM.connOf, RM.idOf, hlive, cond_false]
      have hc : Hid (∀ w', RMem o q w' b m lv kv qv → Calls Tryz.prog 55 #[.pointer (some ⟨b, 0, none⟩), .int .i64 k] w' fun r w'' => r = .returned (.bool false) ∧ Below w'.heap.size w' w'') := fun w' h' => hlive ▸ live_any h' hwf k hk
      go_enter Tryz.func36, Tryz.ntmps36
      go_wp2_with fail
      refine (rIsSlot_any _ _).mono ?_
      rintro e w1 ⟨rfl, rfl⟩
      rw [h0]
      go_wp2_with fail
      refine (hc.out _ (((h.alloc _).alloc _).alloc _)).mono ?_
      rintro e w2 ⟨rfl, hb⟩
      obtain ⟨k0, k1, k2, kb⟩ := three_blks w [.int .i64 0, .bool false, .int .i64 0, .int .i64 0, .int .i64 0, .int .i64 0] [.int .i64 (m.slot k).st, .int .i64 (m.slot k).served, .int .i64 (m.slot k).since, .bool (m.slot k).old, .int .i64 (m.slot k).key] [.int .i64 (m.slot k).st, .bool (m.slot k).old, .int .i64 (m.slot k).served, .int .i64 (m.slot k).since, .int .i64 (-1), .int .i64 0] 58 70 58
      have j0 := k0.below hb
      have j2 := k2.below hb
      have hbb : Below w.heap.size w w2 := kb.trans (hb.mono (by simp; omega))
      clear k0 k1 k2 kb hb c0 c1 c2 c3 c4 hc
      have a0 := j2.cell (k := 0) rfl
      have a1 := j2.cell (k := 1) rfl
      have a2 := j2.cell (k := 2) rfl
      have a3 := j2.cell (k := 3) rfl
      have a4 := j2.cell (k := 4) rfl
      have a5 := j2.cell (k := 5) rfl
      have d0 := j0.cell (k := 0) rfl
      have d1 := j0.cell (k := 1) rfl
      have d2 := j0.cell (k := 2) rfl
      have d3 := j0.cell (k := 3) rfl
      have d4 := j0.cell (k := 4) rfl
      have d5 := j0.cell (k := 5) rfl
      have fz := j0.frozen
      go_wp2
      refine bodyPost_ret (v := .tuple #[.agg #[.int .i64 (m.slot k).st, .bool (m.slot k).old, .int .i64 (m.slot k).served, .int .i64 (m.slot k).since, .int .i64 (-1), .int .i64 0], .int .i64 0]) (by simp [results, Tryz.results36, go_sem, d0, d1, d2, d3, d4, d5]) rfl ⟨rfl, ?_⟩
      repeat (first | refine Below.setCell ?_ (by simp) _ | exact hbb)
    · rw [hlv k hk] at hlive; cases hlive
end
end Go.Proofs.YtmjnengplfoiiaaGreat

namespace Go.Proofs.YtmjnengplfoiiaaGreat
open Go.RowKit

def RM.jobV (m : RM) (n : Int) : ByteArray := cond (isS n && (m.slot n.toNat).st == 3) (m.key (m.slot n.toNat).key).body ⟨#[]⟩

section
variable {o : Nat → Tag} {q : Nat} {w : World} {b : Nat} {m : RM} {lv : Nat → Value} {kv qv : Value}

set_option maxRecDepth 100000 in
set_option maxHeartbeats 1000000 in
theorem rJob_any (h : RMem o q w b m lv kv qv) (hwf : m.wf) (n : Int) :
    Calls Tryz.prog 38 #[.pointer (some ⟨b, 0, none⟩), .int .i64 n] w fun r w' => r = .returned (.tuple #[.string (m.jobV n), .int .i64 (m.stE n 3)]) ∧ Below w.heap.size w w' := by
  have hc : Hid (∀ w', RMem o q w' b m lv kv qv → Calls Tryz.prog 72 #[.pointer (some ⟨b, 0, none⟩), .int .i64 n, .int .i64 3] w' fun r w'' => r = .returned (.int .i64 (m.stE n 3)) ∧ w'' = w') := fun w' h' => rState_any h' n 3
  unfold RM.jobV
  unfold RM.stE at *
  rcases isS_cases n with h0 | ⟨h0, k, hk, rfl⟩
  · simp only [h0, cond_false, Bool.false_and] at *
    go_enter Tryz.func38, Tryz.ntmps38
    go_wp2_with fail
    refine (hc.out _ h).mono ?_
    rintro e w1 ⟨rfl, rfl⟩
    go_wp2
    go_ret2
    exact ⟨rfl, Below.refl _ _⟩
  · simp only [h0, cond_true, Int.toNat_natCast, Bool.true_and] at *
    by_cases h3 : (m.slot k).st = 3
    · have hkey := hwf.s k hk h3
      simp only [h3, beq_self_eq_true, cond_true] at *
      obtain ⟨ak, ck, rfl, hkn, hkrow⟩ := h.klist
      obtain ⟨gk, rfl, hgk, hgb, -, -, -, -, g2, -⟩ := hkrow _ hkey
      have hkv := h.keysv
      obtain ⟨-, -, -, -, c4⟩ := h.slotc hk
      rw [← m.key_eq hkey] at g2
      generalize (m.key (m.slot k).key).body = bd at *
      clear hkrow h3
      go_enter Tryz.func38, Tryz.ntmps38
      go_wp2_with fail
      refine (hc.out _ h).mono ?_
      rintro e w1 ⟨rfl, rfl⟩
      go_wp2
      go_quiet (fail)
      go_wp2
      go_ret2
      exact ⟨rfl, below_dN (Below.refl _ _)⟩
    · have h3' : ((m.slot k).st == 3) = false := by simpa using h3
      simp only [h3', cond_false] at *
      go_enter Tryz.func38, Tryz.ntmps38
      go_wp2_with fail
      refine (hc.out _ h).mono ?_
      rintro e w1 ⟨rfl, rfl⟩
      go_wp2
      go_ret2
      exact ⟨rfl, Below.refl _ _⟩

def encs : List Rec → ByteArray
  | [] => ⟨#[]⟩
  | r :: l => encB r.1 r.2.1 r.2.2 ++ encs l
def RM.sent_ (m : RM) (n : Int) : ByteArray := cond (isC n) (encs (m.line n.toNat).sent) ⟨#[]⟩

theorem ba_nil (a : ByteArray) : a ++ ⟨#[]⟩ = a := by
  have : (⟨#[]⟩ : ByteArray) = ByteArray.empty := rfl
  rw [this, ByteArray.append_empty]
theorem nil_ba (a : ByteArray) : ⟨#[]⟩ ++ a = a := by
  have : (⟨#[]⟩ : ByteArray) = ByteArray.empty := rfl
  rw [this, ByteArray.empty_append]
theorem encs_append (a b : List Rec) : encs (a ++ b) = encs a ++ encs b := by
  induction a with
  | nil => simp [encs, nil_ba]
  | cons r a ih => simp only [List.cons_append, encs, ih, ByteArray.append_assoc]

theorem encB_size (k i : Int) (c : ByteArray) : (encB k i c).size ≤ 208 := by
  unfold encB
  split
  · rename_i h
    obtain ⟨-, -, -, -, -, h5⟩ := allowedB_bd h
    simp only [enc, strOfNums_size, List.length_append, nums_length, List.length_cons, List.length_nil]
    omega
  · decide

theorem encs_size (l : List Rec) : (encs l).size ≤ l.length * 208 := by
  induction l with
  | nil => decide
  | cons r l ih =>
    have := encB_size r.1 r.2.1 r.2.2
    simp only [encs, ByteArray.size_append, List.length_cons]
    omega

set_option maxRecDepth 100000 in
set_option maxHeartbeats 1000000 in
theorem rSent_any (h : RMem o q w b m lv kv qv) (n : Int) (hmax : ∀ k, k < 4 → (m.line k).sent.length ≤ 1000000000000) :
    Calls Tryz.prog 34 #[.pointer (some ⟨b, 0, none⟩), .int .i64 n] w fun r w' => r = .returned (.string (m.sent_ n)) ∧ Below w.heap.size w w' := by
  unfold RM.sent_
  rcases isC_cases n with h0 | ⟨h0, k, hk, rfl⟩
  · simp only [h0, cond_false]
    go_enter Tryz.func34, Tryz.ntmps34
    go_wp2_with fail
    refine (rIsConn_any _ _).mono ?_
    rintro e w1 ⟨rfl, rfl⟩
    rw [h0]
    go_wp2
    go_ret
    exact ⟨rfl, Below.refl _ _⟩
  · simp only [h0, cond_true, Int.toNat_natCast]
    obtain ⟨-, -, -, c3⟩ := h.linec hk
    obtain ⟨ao, c, hv, hn, hg0⟩ := (h.sent k hk).form
    have hrow := (h.sent k hk).1
    have hlim := hmax k hk
    have hbl := h.blk.lt
    rw [hv] at c3 hrow
    clear hmax hv
    generalize (m.line k).sent = l at *
    go_enter Tryz.func34, Tryz.ntmps34
    go_wp2_with fail
    refine (rIsConn_any _ _).mono ?_
    rintro e w1 ⟨rfl, rfl⟩
    rw [h0]
    go_wp2
    go_loopw [6, 7] (fun s i w' => ∃ j : Nat, j ≤ l.length ∧ s = .string (encs (l.take j)) ∧ i = .int .i64 j ∧ Below w1.heap.size w1 w') (fun _ i _ => l.length - (intOf i).toNat)
    case atStart => exact ⟨0, by omega, rfl, rfl, Below.refl _ _⟩
    case round =>
      obtain ⟨j, hj, rfl, rfl, hb⟩ := hrel
      rw [← hb.cell (by exact hbl)] at c3
      by_cases hlt : j < l.length
      · obtain ⟨g, rfl, hgo, hg⟩ := hg0 (by omega)
        have hr := rowOf_get l j hlt
        rw [Nat.mul_comm 3 j] at hr
        have c0 := hrow.cellAt (j * 3) (by omega)
        have c1 := hrow.cellAt (j * 3 + 1) (by omega)
        have c2 := hrow.cellAt (j * 3 + 2) (by omega)
        rw [hr.1, ← hb.cell (by exact hg)] at c0
        rw [hr.2.1, ← hb.cell (by exact hg)] at c1
        rw [hr.2.2, ← hb.cell (by exact hg)] at c2
        have hst := List.take_succ_eq_append_getElem hlt
        have HS : Hid _ := hst
        have hs1 := encs_size (l.take j)
        rw [List.length_take] at hs1
        clear hst hr hrow
        generalize l[j] = r at *
        have hs2 := encB_size r.1 r.2.1 r.2.2
        have HE : Hid (∀ w, Calls Tryz.prog 68 #[.agg #[.int .i64 r.1, .int .i64 r.2.1, .string r.2.2]] w fun x w' => x = .returned (.tuple #[.string (encB r.1 r.2.1 r.2.2), .int .i64 (encE r.1 r.2.1 r.2.2)]) ∧ Below w.heap.size w w') := fun w => refEncode_any _ _ _ w
        generalize hE : encB r.1 r.2.1 r.2.2 = E at *
        have HE2 : Hid _ := hE
        generalize hS : encs (l.take j) = S at *
        have HS2 : Hid _ := hS
        clear hE hS
        have hcat : ¬ (9223372036854775807 < S.size + E.size) := by omega
        go_wp2_with fail
        refine (HE.out _).mono ?_
        rintro e w2 ⟨rfl, hb2⟩
        go_wp2
        refine ⟨⟨j + 1, by omega, ?_, by go_num, hb.trans (hb2.mono hb.size)⟩, by simp [intOf]; omega⟩
        rw [HS.out, encs_append, HS2.out]
        simp only [encs, ba_nil, HE2.out]
      · have : j = l.length := by omega
        go_wp2
        go_ret
        rw [this, List.take_length]
        exact ⟨rfl, hb⟩

end
end Go.Proofs.YtmjnengplfoiiaaGreat

namespace Go.Proofs.YtmjnengplfoiiaaGreat
open Go.RowKit

theorem own_mono {w : World} {base base' : Nat} {e : TypeId} {size : Nat} {v : Value} {n : Nat} {l : List Value} (h : w.ownsRow base e size v n l) (hb : base' ≤ base) : w.ownsRow base' e size v n l := by
  obtain ⟨h1, h2⟩ := h
  refine ⟨h1, ?_⟩
  rcases h2 with h2 | ⟨g, cap, cur, hv, hg, r⟩
  · exact .inl h2
  · exact .inr ⟨g, cap, cur, hv, Nat.le_trans hb hg, r⟩

theorem own_slice {w : World} {base : Nat} {e : TypeId} {size n : Nat} {v : Value} {xs : List Value} (h : w.ownsRow base e size v n xs) :
    ∃ ao c, v = .slice ao n c ∧ (n : Int) ≤ 9223372036854775807 ∧ (0 < n → ∃ g, ao = some ⟨g, 0, none⟩ ∧ base ≤ g ∧ g < w.heap.size) := by
  rcases h.2 with ⟨rfl, rfl⟩ | ⟨g, cap, cur, rfl, hb, hg, hn, hc, hs, ht⟩
  · exact ⟨_, _, rfl, by omega, by omega⟩
  · exact ⟨_, _, rfl, by simp only [maxLen] at hc; omega, fun _ => ⟨g, rfl, hb, (Array.getElem?_eq_some_iff.1 hg).1⟩⟩

def RM.waits (m : RM) : List (Int × Int) := m.back.map fun i => ((m.key i).conn, (m.key i).id)

theorem RM.back_lt {m : RM} (hwf : m.wf) {i : Nat} (h : i ∈ m.back) : i < m.keys.length := hwf.q i (List.mem_filter.1 h).1
theorem RM.back_len (m : RM) : m.back.length ≤ m.queue.length := List.length_filter_le _ _

section
variable {o : Nat → Tag} {q : Nat} {w : World} {b : Nat} {m : RM} {lv : Nat → Value} {kv qv : Value}

set_option maxRecDepth 100000 in
set_option maxHeartbeats 2000000 in
theorem rBacklog_any (h : RMem o q w b m lv kv qv) (hwf : m.wf) (hmax : m.queue.length ≤ 1000000000000) :
    Calls Tryz.prog 40 #[.pointer (some ⟨b, 0, none⟩)] w fun r w' => ∃ v, r = .returned v ∧ w'.ownsRow w.heap.size 88 2 v m.waits.length (keyCells m.waits) ∧ Below w.heap.size w w' := by
  obtain ⟨i0, hi, hz0, hz1, hz2⟩ := info_parts infoKey
  obtain ⟨ak, ck, rfl, hkn, hkrow⟩ := h.klist
  have h2 := h.keysv
  have hbl := h.blk.lt
  have hbk := m.back_len
  have hmem := fun {i} (hi : i ∈ m.back) => RM.back_lt hwf hi
  have hwt : Hid (m.waits = m.back.map fun i => ((m.key i).conn, (m.key i).id)) := rfl
  have hwl : m.waits.length = m.back.length := by simp [RM.waits]
  have hcall : Hid (Calls Tryz.prog 64 #[.pointer (some ⟨b, 0, none⟩)] w fun r w' => ∃ v, r = .returned v ∧ w'.ownsRow w.heap.size 3 1 v m.back.length (numCells m.back) ∧ Below w.heap.size w w') := rback_any h hwf hmax
  rw [hwl]
  clear hwl
  generalize m.waits = WT at *
  generalize m.back = L at *
  go_enter Tryz.func40, Tryz.ntmps40
  go_wp2_with fail
  refine hcall.out.mono ?_
  rintro e w1 ⟨v, rfl, hv, hb1⟩
  obtain ⟨al, cl, rfl, hln, hl0⟩ := own_slice hv
  rw [← hb1.cell (by exact hbl)] at h2
  have hbl1 : b < w1.heap.size := Nat.lt_of_lt_of_le hbl hb1.size
  have hs1 := hb1.size
  clear hbl hcall
  go_wp2
  go_loopw [4, 5] (fun u i w' => ∃ j : Nat, j ≤ L.length ∧ i = .int .i64 j ∧ w'.ownsRow w1.heap.size 88 2 u j (keyCells ((L.take j).map fun i => ((m.key i).conn, (m.key i).id))) ∧ Below w1.heap.size w1 w') (fun _ i _ => L.length - (intOf i).toNat)
  case atStart => exact ⟨0, by omega, rfl, World.ownsRow_nil _ _ _ _, Below.refl _ _⟩
  case round =>
    obtain ⟨j, hj, rfl, hown, hb⟩ := hrel
    have hbase := hb.size
    by_cases hlt : j < L.length
    · obtain ⟨gl, rfl, hgl0, hgl⟩ := hl0 (by omega)
      have hx := hmem (List.getElem_mem hlt)
      obtain ⟨gk, rfl, hgk, -, -, -, k0, k1, -, -⟩ := hkrow _ hx
      have cl0 := hv.cellAt j (by omega)
      have hst := List.take_succ_eq_append_getElem hlt
      have HS : Hid _ := hst
      rw [← m.key_eq hx] at k0 k1
      rw [← hb1.cell (by exact hgk)] at k0 k1
      have hgk1 : gk < w1.heap.size := Nat.lt_of_lt_of_le hgk hs1
      rw [← hb.cell (by exact hgk1)] at k0 k1
      rw [← hb.cell (by exact hgl)] at cl0
      rw [← hb.cell (by exact hbl1)] at h2
      have e0 : (numCells L)[j]? = some (.int .i64 (L[j] : Nat)) := by simp [numCells, List.getElem?_map, List.getElem?_eq_getElem hlt]
      rw [e0] at cl0
      clear hst e0 hkrow hmem hv hgl0
      generalize hacc : (List.take j L).map (fun i => ((m.key i).conn, (m.key i).id)) = acc at *
      have HA : Hid _ := hacc
      have hal : acc.length = j := by rw [← hacc, List.length_map, List.length_take]; omega
      clear hacc
      generalize L[j] = x at *
      generalize hcn : (m.key x).conn = cn at *
      generalize hci : (m.key x).id = ci at *
      have HC : Hid (((m.key x).conn, (m.key x).id) = (cn, ci)) := by show _ = _; rw [hcn, hci]
      clear hcn hci
      go_wp2_with fail
      refine wp_region_noPanic ?_
      refine wp_region_held_drew (S := fun w' => w'.cell? ⟨b, 54, none⟩ = some (.slice (some ⟨gk, 0, none⟩) m.keys.length ck) ∧ w'.cell? ⟨gl, j, none⟩ = some (.int .i64 x) ∧ w'.cell? ⟨gk, x * 4, none⟩ = some (.int .i64 cn) ∧ w'.cell? ⟨gk, x * 4 + 1, none⟩ = some (.int .i64 ci)) (by kernel_rfl) ⟨h2, cl0, k0, k1⟩ (fun hHeld => ?_)
      refine take_at (i := 0) (v := ?_) rfl (by kernel_rfl) (by kernel_rfl) (by kernel_rfl) (fun _ _ _ h => h) (by rfl) ?_ (by assumption) ?_
      rotate_left
      · (intro wx hSw; obtain ⟨x0, x1, x2, x3⟩ := hSw; go_simp; with_reducible rfl)
      simp only [Act.put, List.setIfInBounds_toArray, List.set_cons_zero, List.set_cons_succ]
      refine take_at (i := 1) (v := ?_) rfl (by kernel_rfl) (by kernel_rfl) (by kernel_rfl) (fun _ _ _ h => h) (by rfl) ?_ (by assumption) ?_
      rotate_left
      · (intro wx hSw; obtain ⟨x0, x1, x2, x3⟩ := hSw; go_simp; with_reducible rfl)
      simp only [Act.put, List.setIfInBounds_toArray, List.set_cons_zero, List.set_cons_succ]
      refine take_at (i := 2) (v := ?_) rfl (by kernel_rfl) (by kernel_rfl) (by kernel_rfl) (fun _ _ _ h => h) (by rfl) ?_ (by assumption) ?_
      rotate_left
      · (intro wx hSw; obtain ⟨x0, x1, x2, x3⟩ := hSw; go_simp; with_reducible rfl)
      simp only [Act.put, List.setIfInBounds_toArray, List.set_cons_zero, List.set_cons_succ]
      refine take_at (i := 3) (v := ?_) rfl (by kernel_rfl) (by kernel_rfl) (by kernel_rfl) (fun _ _ _ h => h) (by rfl) ?_ (by assumption) ?_
      rotate_left
      · (intro wx hSw; obtain ⟨x0, x1, x2, x3⟩ := hSw; go_simp; with_reducible rfl)
      simp only [Act.put, List.setIfInBounds_toArray, List.set_cons_zero, List.set_cons_succ]
      refine take_at (i := 4) (v := ?_) rfl (by kernel_rfl) (by kernel_rfl) (by kernel_rfl) (fun _ _ _ h => h) (by rfl) ?_ (by assumption) ?_
      rotate_left
      · (intro wx hSw; obtain ⟨x0, x1, x2, x3⟩ := hSw; go_simp; with_reducible rfl)
      simp only [Act.put, List.setIfInBounds_toArray, List.set_cons_zero, List.set_cons_succ]
      refine take_at (i := 5) (v := ?_) rfl (by kernel_rfl) (by kernel_rfl) (by kernel_rfl) (fun _ _ _ h => h) (by rfl) ?_ (by assumption) ?_
      rotate_left
      · (intro wx hSw; obtain ⟨x0, x1, x2, x3⟩ := hSw; go_simp; with_reducible rfl)
      simp only [Act.put, List.setIfInBounds_toArray, List.set_cons_zero, List.set_cons_succ]
      refine take_at (i := 6) (v := ?_) rfl (by kernel_rfl) (by kernel_rfl) (by kernel_rfl) (fun _ _ _ h => h) (by rfl) ?_ (by assumption) ?_
      rotate_left
      · (intro wx hSw; obtain ⟨x0, x1, x2, x3⟩ := hSw; go_simp; with_reducible rfl)
      simp only [Act.put, List.setIfInBounds_toArray, List.set_cons_zero, List.set_cons_succ]
      refine take_at (i := 7) (v := ?_) rfl (by kernel_rfl) (by kernel_rfl) (by kernel_rfl) (fun _ _ _ h => h) (by rfl) ?_ (by assumption) ?_
      rotate_left
      · (intro wx hSw; obtain ⟨x0, x1, x2, x3⟩ := hSw; go_simp; with_reducible rfl)
      simp only [Act.put, List.setIfInBounds_toArray, List.set_cons_zero, List.set_cons_succ]
      refine take_at (i := 8) (v := ?_) rfl (by kernel_rfl) (by kernel_rfl) (by kernel_rfl) (fun _ _ _ h => h) (by rfl) ?_ (by assumption) ?_
      rotate_left
      · (intro wx hSw; obtain ⟨x0, x1, x2, x3⟩ := hSw; go_simp; with_reducible rfl)
      simp only [Act.put, List.setIfInBounds_toArray, List.set_cons_zero, List.set_cons_succ]
      refine take_at (i := 9) (v := ?_) rfl (by kernel_rfl) (by kernel_rfl) (by kernel_rfl) (fun _ _ _ h => h) (by rfl) ?_ (by assumption) ?_
      rotate_left
      · (intro wx hSw; obtain ⟨x0, x1, x2, x3⟩ := hSw; go_simp; with_reducible rfl)
      simp only [Act.put, List.setIfInBounds_toArray, List.set_cons_zero, List.set_cons_succ]
      refine take_at (i := 10) (v := ?_) rfl (by kernel_rfl) (by kernel_rfl) (by kernel_rfl) (fun _ _ _ h => h) (by rfl) ?_ (by assumption) ?_
      rotate_left
      · (intro wx hSw; obtain ⟨x0, x1, x2, x3⟩ := hSw; go_simp; with_reducible rfl)
      simp only [Act.put, List.setIfInBounds_toArray, List.set_cons_zero, List.set_cons_succ]
      refine take_at (i := 11) (v := ?_) rfl (by kernel_rfl) (by kernel_rfl) (by kernel_rfl) (fun _ _ _ h => h) (by rfl) ?_ (by assumption) ?_
      rotate_left
      · (intro wx hSw; obtain ⟨x0, x1, x2, x3⟩ := hSw; go_simp; with_reducible rfl)
      simp only [Act.put, List.setIfInBounds_toArray, List.set_cons_zero, List.set_cons_succ]
      refine take_at (i := 12) (v := ?_) rfl (by kernel_rfl) (by kernel_rfl) (by kernel_rfl) (fun _ _ _ h => h) (by rfl) ?_ (by assumption) ?_
      rotate_left
      · (intro wx hSw; obtain ⟨x0, x1, x2, x3⟩ := hSw; go_simp; with_reducible rfl)
      simp only [Act.put, List.setIfInBounds_toArray, List.set_cons_zero, List.set_cons_succ]
      refine take_at (i := 13) (v := ?_) rfl (by kernel_rfl) (by kernel_rfl) (by kernel_rfl) (fun _ _ _ h => h) (by rfl) ?_ (by assumption) ?_
      rotate_left
      · (intro wx hSw; obtain ⟨x0, x1, x2, x3⟩ := hSw; go_simp; with_reducible rfl)
      simp only [Act.put, List.setIfInBounds_toArray, List.set_cons_zero, List.set_cons_succ]
      refine take_at (i := 14) (v := ?_) rfl (by kernel_rfl) (by kernel_rfl) (by kernel_rfl) (fun _ _ _ h => h) (by rfl) ?_ (by assumption) ?_
      rotate_left
      · (intro wx hSw; obtain ⟨x0, x1, x2, x3⟩ := hSw; go_simp; with_reducible rfl)
      simp only [Act.put, List.setIfInBounds_toArray, List.set_cons_zero, List.set_cons_succ]
      refine take_at (i := 15) (v := ?_) rfl (by kernel_rfl) (by kernel_rfl) (by kernel_rfl) (fun _ _ _ h => h) (by rfl) ?_ (by assumption) ?_
      rotate_left
      · (intro wx hSw; obtain ⟨x0, x1, x2, x3⟩ := hSw; go_simp; with_reducible rfl)
      simp only [Act.put, List.setIfInBounds_toArray, List.set_cons_zero, List.set_cons_succ]
      refine take_at (i := 16) (v := ?_) rfl (by kernel_rfl) (by kernel_rfl) (by kernel_rfl) (fun _ _ _ h => h) (by rfl) ?_ (by assumption) ?_
      rotate_left
      · (intro wx hSw; obtain ⟨x0, x1, x2, x3⟩ := hSw; go_simp; with_reducible rfl)
      simp only [Act.put, List.setIfInBounds_toArray, List.set_cons_zero, List.set_cons_succ]
      refine take_at (i := 17) (v := ?_) rfl (by kernel_rfl) (by kernel_rfl) (by kernel_rfl) (fun _ _ _ h => h) (by rfl) ?_ (by assumption) ?_
      rotate_left
      · (intro wx hSw; obtain ⟨x0, x1, x2, x3⟩ := hSw; go_simp; with_reducible rfl)
      simp only [Act.put, List.setIfInBounds_toArray, List.set_cons_zero, List.set_cons_succ]
      refine take_at (i := 18) (v := ?_) rfl (by kernel_rfl) (by kernel_rfl) (by kernel_rfl) (fun _ _ _ h => h) (by rfl) ?_ (by assumption) ?_
      rotate_left
      · (intro wx hSw; obtain ⟨x0, x1, x2, x3⟩ := hSw; go_simp; with_reducible rfl)
      simp only [Act.put, List.setIfInBounds_toArray, List.set_cons_zero, List.set_cons_succ]
      refine take_at (i := 19) (v := ?_) rfl (by kernel_rfl) (by kernel_rfl) (by kernel_rfl) (fun _ _ _ h => h) (by rfl) ?_ (by assumption) ?_
      rotate_left
      · (intro wx hSw; obtain ⟨x0, x1, x2, x3⟩ := hSw; go_simp; with_reducible rfl)
      simp only [Act.put, List.setIfInBounds_toArray, List.set_cons_zero, List.set_cons_succ]
      refine take_at (i := 20) (v := ?_) rfl (by kernel_rfl) (by kernel_rfl) (by kernel_rfl) (fun _ _ _ h => h) (by rfl) ?_ (by assumption) ?_
      rotate_left
      · (intro wx hSw; obtain ⟨x0, x1, x2, x3⟩ := hSw; go_simp; with_reducible rfl)
      simp only [Act.put, List.setIfInBounds_toArray, List.set_cons_zero, List.set_cons_succ]
      refine take_at (i := 21) (v := ?_) rfl (by kernel_rfl) (by kernel_rfl) (by kernel_rfl) (fun _ _ _ h => h) (by rfl) ?_ (by assumption) ?_
      rotate_left
      · (intro wx hSw; obtain ⟨x0, x1, x2, x3⟩ := hSw; go_simp; with_reducible rfl)
      simp only [Act.put, List.setIfInBounds_toArray, List.set_cons_zero, List.set_cons_succ]
      refine take_at (i := 22) (v := ?_) rfl (by kernel_rfl) (by kernel_rfl) (by kernel_rfl) (fun _ _ _ h => h) (by rfl) ?_ (by assumption) ?_
      rotate_left
      · (intro wx hSw; obtain ⟨x0, x1, x2, x3⟩ := hSw; go_simp; with_reducible rfl)
      simp only [Act.put, List.setIfInBounds_toArray, List.set_cons_zero, List.set_cons_succ]
      refine take_at (i := 23) (v := ?_) rfl (by kernel_rfl) (by kernel_rfl) (by kernel_rfl) (fun _ _ _ h => h) (by rfl) ?_ (by assumption) ?_
      rotate_left
      · (intro wx hSw; obtain ⟨x0, x1, x2, x3⟩ := hSw; go_simp; with_reducible rfl)
      simp only [Act.put, List.setIfInBounds_toArray, List.set_cons_zero, List.set_cons_succ]
      refine only_at (i := 24) rfl (by kernel_rfl) (by rfl) (fun K hK => ?_)
      go_simp
      refine hK.out _ _ (by simp [h2, cl0, k0, k1, World.cell?_alloc_some]) ?_
      clear hK K hHeld
      refine only_at (i := 25) rfl (by kernel_rfl) (by rfl) (fun K hK => ?_)
      refine wp_append_own _ _ _ 85 rfl w1.heap.size 88 i0 (.agg #[.int .i64 0, .int .i64 0]) 2 16 Tryz.underlying85 hi hz0 hz1 hz2 rfl (by omega) u4 j (keyCells acc) rfl (World.ownsRow.alloc (w := wr.drew) hown _) ⟨wr.heap.size, 0, none⟩ 1 1 (keyCells [(cn, ci)]) rfl rfl ?_ (keyCells_one _) (by unfold maxLen; omega) (by omega) (by simp; omega) ?_
      · exact news_key wr.drew _ rfl _ _ _
      intro v' w3 hown3 hgrow _
      have hne : ∀ (y : Nat), y < w1.heap.size → some y ≠ u4.ownBlock := by
        intro y hy e
        have := (hown.lt y e.symm).1
        omega
      have hq : ∀ (y ob : Nat) (z : Value), y < w1.heap.size → wr.cell? ⟨y, ob, none⟩ = some z → w3.cell? ⟨y, ob, none⟩ = some z := fun y ob z hy hz =>
        hgrow.cell (by simp [hz, World.cell?_alloc_some]) (hne y hy)
      have hS3 : w3.cell? ⟨b, 54, none⟩ = some (.slice (some ⟨gk, 0, none⟩) m.keys.length ck) ∧ w3.cell? ⟨gl, j, none⟩ = some (.int .i64 x) ∧ w3.cell? ⟨gk, x * 4, none⟩ = some (.int .i64 cn) ∧ w3.cell? ⟨gk, x * 4 + 1, none⟩ = some (.int .i64 ci) := ⟨hq _ _ _ hbl1 h2, hq _ _ _ hgl cl0, hq _ _ _ hgk1 k0, hq _ _ _ hgk1 k1⟩
      refine hK.out _ _ hS3 ?_
      clear hK K
      simp only [Act.put, List.setIfInBounds_toArray, List.set_cons_zero, List.set_cons_succ]
      refine only_at (i := 26) rfl (by kernel_rfl) (by rfl) (fun K hK => ?_)
      go_simp
      refine hK.out _ _ hS3 ?_
      clear hK K hq hS3
      refine wpAnyH_done (by kernel_rfl) ?_ _
      refine NoPanic.normal ?_
      clear h2 cl0 k0 k1
      go_wp2
      refine ⟨⟨j + 1, by omega, by go_num, ?_, ?_⟩, by simp [intOf]; omega⟩
      · rw [HS.out, List.map_append, HA.out, keyCells_append]
        simp only [List.map_cons, List.map_nil, HC.out]
        exact hown3
      · refine (hb.drew.alloc hbase _).grown hgrow (by simp; omega) ?_
        intro y hy
        exact (hown.lt y hy).1
    · have : j = L.length := by omega
      subst this
      go_wp2
      go_ret
      rw [List.take_length, ← hwt.out] at hown
      exact ⟨_, rfl, own_mono hown hs1, hb1.trans (hb.mono hs1)⟩

end
end Go.Proofs.YtmjnengplfoiiaaGreat
