import Derived.Test.YtlafkpaljibonaaJ1
import Derived.Deep.AppendLies
import Derived.Deep.MidRow
import Derived.Deep.RegionHeld3
import Derived.Test.YtlafkpaljibonaaJ2
namespace Go.Proofs.Ytlafkpaljibonaa
open Go.RowKit

/-- Whose a block is: an owner's number, and which of his it is. (0, 0): nobody's. -/
abbrev Tag := Nat × Nat
def Clean (o : Nat → Tag) (w : World) : Prop := ∀ g, w.heap.size ≤ g → o g = (0, 0)

/-- What may have come about while the owner q was at work. -/
structure Fr (q : Nat) (o : Nat → Tag) (w : World) (o' : Nat → Tag) (w' : World) : Prop where
  os : w'.os = w.os
  tape : w'.tape = w.tape
  output : w'.output = w.output
  size : w.heap.size ≤ w'.heap.size
  clean : Clean o' w'
  tags : ∀ g, g < w.heap.size → o' g = o g
  block : ∀ g, g < w.heap.size → (o g).1 ≠ q → w'.heap[g]? = w.heap[g]?

section
variable {q : Nat} {o o' o1 o2 : Nat → Tag} {w w' w1 w2 : World}

theorem Clean.le (h : Clean o w) (hs : w.heap.size ≤ w'.heap.size) : Clean o w' := fun g hg => h g (Nat.le_trans hs hg)

theorem Fr.refl (h : Clean o w) : Fr q o w o w := ⟨rfl, rfl, rfl, Nat.le_refl _, h, fun _ _ => rfl, fun _ _ _ => rfl⟩

theorem Fr.trans (h : Fr q o w o1 w1) (k : Fr q o1 w1 o2 w2) : Fr q o w o2 w2 :=
  ⟨k.os.trans h.os, k.tape.trans h.tape, k.output.trans h.output, Nat.le_trans h.size k.size, k.clean,
   fun g hg => (k.tags g (Nat.lt_of_lt_of_le hg h.size)).trans (h.tags g hg),
   fun g hg hq => (k.block g (Nat.lt_of_lt_of_le hg h.size) (by rw [h.tags g hg]; exact hq)).trans (h.block g hg hq)⟩

theorem Fr.of_below (hc : Clean o w) (h : Below w.heap.size w w') : Fr q o w o w' :=
  ⟨h.os, h.tape, h.output, h.size, hc.le h.size, fun _ _ => rfl, fun g hg _ => h.block g hg⟩

theorem Fr.below (h : Fr q o w o1 w1) (k : Below w1.heap.size w1 w2) : Fr q o w o1 w2 := h.trans (Fr.of_below h.clean k)

/-- What was nobody's, or another's, is as it was. -/
theorem Fr.toBelow (h : Fr q o w o' w') (B : Nat) (hB : B ≤ w.heap.size) (ho : ∀ g, g < B → (o g).1 ≠ q) : Below B w w' :=
  ⟨h.os, h.tape, h.output, h.size, fun g hg => h.block g (Nat.lt_of_lt_of_le hg hB) (ho g hg)⟩

def Tagged (o : Nat → Tag) (v : Value) (t : Tag) : Prop := ∀ g, v.ownBlock = some g → o g = t

def Row (o : Nat → Tag) (w : World) (t : Tag) (e : TypeId) (size : Nat) (v : Value) (n : Nat) (xs : List Value) : Prop :=
  w.ownsRow 0 e size v n xs ∧ Tagged o v t

variable {t : Tag} {e : TypeId} {size n : Nat} {v : Value} {xs : List Value}

theorem Row.nil (o : Nat → Tag) (w : World) (t : Tag) (e : TypeId) (size : Nat) : Row o w t e size (.slice none 0 0) 0 [] :=
  ⟨World.ownsRow_nil _ _ _ _, fun g hg => by simp [Value.ownBlock] at hg⟩

theorem Row.keep (h : Row o w t e size v n xs) (ht : ∀ g, g < w.heap.size → o' g = o g) (hb : ∀ g, g < w.heap.size → o g = t → w'.heap[g]? = w.heap[g]?) : Row o' w' t e size v n xs := by
  obtain ⟨h1, h2⟩ := h
  have hlt := h1.lt
  refine ⟨⟨h1.1, ?_⟩, fun g hg => (ht g (hlt g hg).2).trans (h2 g hg)⟩
  rcases h1.2 with hn | ⟨g, cap, cur, rfl, hb', hgg, rest⟩
  · exact .inl hn
  · exact .inr ⟨g, cap, cur, rfl, hb', by rw [hb g (hlt g rfl).2 (h2 g rfl)]; exact hgg, rest⟩

theorem Row.fr (h : Row o w t e size v n xs) (hf : Fr q o w o' w') (hq : t.1 ≠ q) : Row o' w' t e size v n xs :=
  h.keep hf.tags fun g hg ho => hf.block g hg (by rw [ho]; exact hq)

theorem Row.below (h : Row o w t e size v n xs) (hf : Below w.heap.size w w') : Row o w' t e size v n xs :=
  h.keep (fun _ _ => rfl) fun g hg _ => hf.block g hg

/-- A block whole: its cells in their order. -/
def Blk (w : World) (b : Nat) (T : TypeId) (C : List Value) : Prop := w.heap[b]? = some (.cells C.toArray T (0, 0))

variable {b : Nat} {T : TypeId} {C : List Value}

theorem Blk.lt (h : Blk w b T C) : b < w.heap.size := (Array.getElem?_eq_some_iff.1 h).1

theorem Blk.cell (h : Blk w b T C) {k : Nat} {u : Value} (hk : C[k]? = some u) : w.cell? ⟨b, k, none⟩ = some u := by
  rw [cell_of_row w b k _ T (0, 0) h]; simpa using hk

theorem Blk.frozen (h : Blk w b T C) (k : Nat) : w.frozen? ⟨b, k, none⟩ = false := frozen_of_row w b k _ T h

theorem Blk.set (h : Blk w b T C) (k : Nat) (u : Value) : Blk (w.setCell ⟨b, k, none⟩ u) b T (C.set k u) := by
  have := heap_setCell_same w b k C.toArray T u h
  simpa [Blk] using this

theorem Blk.keep (h : Blk w b T C) (hb : w'.heap[b]? = w.heap[b]?) : Blk w' b T C := hb.trans h

theorem Blk.below (h : Blk w b T C) (hf : Below w.heap.size w w') : Blk w' b T C := h.keep (hf.block b h.lt)

theorem Blk.made (w : World) (T : TypeId) (C : List Value) : Blk (w.alloc (.cells C.toArray T)) w.heap.size T C := heap_alloc_new w _

def upd {α : Type} (f : Nat → α) (k : Nat) (x : α) : Nat → α := fun i => if i = k then x else f i

@[simp] theorem upd_same {α : Type} (f : Nat → α) (k : Nat) (x : α) : upd f k x k = x := by simp [upd]
theorem upd_other {α : Type} (f : Nat → α) {k i : Nat} (x : α) (h : i ≠ k) : upd f k x i = f i := by simp [upd, h]

end

/-- The settings. -/
structure Cfg where
  ch : Int
  dyn : Bool
  mn : Int
  mx : Int
  mr : Int
  tmo : Int
  bl : Int

def Cfg.cells (c : Cfg) : List Value := [.int .i64 c.ch, .bool c.dyn, .int .i64 c.mn, .int .i64 c.mx, .int .i64 c.mr, .int .i64 c.tmo, .int .i64 c.bl]
def Cfg.val (c : Cfg) : Value := .agg #[.int .i64 c.ch, .bool c.dyn, .int .i64 c.mn, .int .i64 c.mx, .int .i64 c.mr, .int .i64 c.tmo, .int .i64 c.bl]

/-- May there be such settings? -/
def Cfg.ok (c : Cfg) : Bool := decide (1 ≤ c.ch) && decide (c.ch ≤ 6) && (decide (0 ≤ c.bl) && decide (c.bl ≤ 20)) && (decide (0 ≤ c.mr) && decide (c.mr ≤ 1000) && (decide (0 ≤ c.tmo) && decide (c.tmo ≤ 1000))) &&
  (!c.dyn || (decide (1 ≤ c.mn) && decide (c.mn ≤ c.mx) && decide (c.mx ≤ c.ch)))

/-- The program's state, as a plain value. -/
structure PConn where
  op : Bool
  rest : ByteArray
  sent : List Int

structure PSlot where
  st : Int
  old : Bool
  served : Int
  since : Int
  conn : Int
  id : Int
  job : ByteArray

structure Req where
  conn : Int
  id : Int
  stage : Int
  body : ByteArray

structure PM where
  set : Cfg
  time : Int
  con : Nat → PConn
  req : List Req
  slot : Nat → PSlot

def PConn.cells (c : PConn) (v : Value) : List Value := [.bool c.op, .string c.rest, v]
def PSlot.cells (s : PSlot) : List Value := [.int .i64 s.st, .bool s.old, .int .i64 s.served, .int .i64 s.since, .int .i64 s.conn, .int .i64 s.id, .string s.job]
def Req.cells (r : Req) : List Value := [.int .i64 r.conn, .int .i64 r.id, .int .i64 r.stage, .string r.body]
def reqCells (l : List Req) : List Value := l.flatMap Req.cells

def fcells (m : PM) (sv : Nat → Value) (rv : Value) : List Value :=
  m.set.cells ++ .int .i64 m.time :: ((m.con 0).cells (sv 0) ++ ((m.con 1).cells (sv 1) ++ ((m.con 2).cells (sv 2) ++ ((m.con 3).cells (sv 3) ++
    rv :: ((m.slot 0).cells ++ ((m.slot 1).cells ++ ((m.slot 2).cells ++ ((m.slot 3).cells ++ ((m.slot 4).cells ++ (m.slot 5).cells)))))))))

structure FMem (o : Nat → Tag) (q : Nat) (w : World) (b : Nat) (m : PM) (sv : Nat → Value) (rv : Value) : Prop where
  clean : Clean o w
  tag : o b = (q, 1)
  blk : Blk w b 103 (fcells m sv rv)
  sent : ∀ k, k < 4 → Row o w (q, 2 + k) 5 1 (sv k) (m.con k).sent.length ((m.con k).sent.map (Value.int .u8))
  reqs : Row o w (q, 6) 111 4 rv m.req.length (reqCells m.req)
  few : m.set.ch ≤ 6

section
variable {o o' : Nat → Tag} {q q' : Nat} {w w' : World} {b : Nat} {m m' : PM} {sv : Nat → Value} {rv : Value}

theorem FMem.fr (h : FMem o q w b m sv rv) (hf : Fr q' o w o' w') (hq : q ≠ q') : FMem o' q w' b m sv rv :=
  ⟨hf.clean, (hf.tags b h.blk.lt).trans h.tag, h.blk.keep (hf.block b h.blk.lt (by rw [h.tag]; exact hq)),
   fun k hk => (h.sent k hk).fr hf hq, h.reqs.fr hf hq, h.few⟩

theorem FMem.below (h : FMem o q w b m sv rv) (hf : Below w.heap.size w w') : FMem o q w' b m sv rv :=
  ⟨h.clean.le hf.size, h.tag, h.blk.below hf, fun k hk => (h.sent k hk).below hf, h.reqs.below hf, h.few⟩

theorem FMem.alloc (h : FMem o q w b m sv rv) (ob : Obj) : FMem o q (w.alloc ob) b m sv rv := h.below ((Below.refl _ _).alloc (Nat.le_refl _) ob)

/-- The struct itself was written. -/
theorem FMem.put (h : FMem o q w b m sv rv) (hb : Blk w' b 103 (fcells m' sv rv)) (hs : w'.heap.size = w.heap.size) (ho : ∀ g, g ≠ b → w'.heap[g]? = w.heap[g]?)
    (h1 : ∀ k, k < 4 → (m'.con k).sent = (m.con k).sent) (h2 : m'.req = m.req) (h3 : m'.set.ch ≤ 6 := by exact h.few) : FMem o q w' b m' sv rv :=
  ⟨h.clean.le (Nat.le_of_eq hs.symm), h.tag, hb,
   fun k hk => by rw [h1 k hk]; exact (h.sent k hk).keep (fun _ _ => rfl) fun g _ hg => ho g fun e => by rw [e, h.tag] at hg; simp at hg; omega,
   by rw [h2]; exact h.reqs.keep (fun _ _ => rfl) fun g _ hg => ho g fun e => by rw [e, h.tag] at hg; simp at hg, h3⟩

theorem FMem.op (h : FMem o q w b m sv rv) {k : Nat} (hk : k < 4) : w.cell? ⟨b, 8 + k * 3, none⟩ = some (.bool (m.con k).op) := by
  apply h.blk.cell; rcases k with _ | _ | _ | _ | k <;> first | rfl | omega
theorem FMem.rest (h : FMem o q w b m sv rv) {k : Nat} (hk : k < 4) : w.cell? ⟨b, 8 + k * 3 + 1, none⟩ = some (.string (m.con k).rest) := by
  apply h.blk.cell; rcases k with _ | _ | _ | _ | k <;> first | rfl | omega
theorem FMem.sentv (h : FMem o q w b m sv rv) {k : Nat} (hk : k < 4) : w.cell? ⟨b, 8 + k * 3 + 2, none⟩ = some (sv k) := by
  apply h.blk.cell; rcases k with _ | _ | _ | _ | k <;> first | rfl | omega
theorem FMem.slotc (h : FMem o q w b m sv rv) {k : Nat} (hk : k < 6) :
    w.cell? ⟨b, 21 + k * 7, none⟩ = some (.int .i64 (m.slot k).st) ∧ w.cell? ⟨b, 21 + k * 7 + 1, none⟩ = some (.bool (m.slot k).old) ∧ w.cell? ⟨b, 21 + k * 7 + 2, none⟩ = some (.int .i64 (m.slot k).served) ∧
    w.cell? ⟨b, 21 + k * 7 + 3, none⟩ = some (.int .i64 (m.slot k).since) ∧ w.cell? ⟨b, 21 + k * 7 + 4, none⟩ = some (.int .i64 (m.slot k).conn) ∧ w.cell? ⟨b, 21 + k * 7 + 5, none⟩ = some (.int .i64 (m.slot k).id) ∧
    w.cell? ⟨b, 21 + k * 7 + 6, none⟩ = some (.string (m.slot k).job) := by
  refine ⟨?_, ?_, ?_, ?_, ?_, ?_, ?_⟩ <;> (apply h.blk.cell; rcases k with _ | _ | _ | _ | _ | _ | k <;> first | rfl | omega)
theorem FMem.timec (h : FMem o q w b m sv rv) : w.cell? ⟨b, 7, none⟩ = some (.int .i64 m.time) := h.blk.cell rfl
theorem FMem.reqv (h : FMem o q w b m sv rv) : w.cell? ⟨b, 20, none⟩ = some rv := h.blk.cell rfl
theorem FMem.chc (h : FMem o q w b m sv rv) : w.cell? ⟨b, 0, none⟩ = some (.int .i64 m.set.ch) := h.blk.cell rfl
theorem FMem.dync (h : FMem o q w b m sv rv) : w.cell? ⟨b, 1, none⟩ = some (.bool m.set.dyn) := h.blk.cell rfl
theorem FMem.blc (h : FMem o q w b m sv rv) : w.cell? ⟨b, 6, none⟩ = some (.int .i64 m.set.bl) := h.blk.cell rfl
theorem FMem.frozen (h : FMem o q w b m sv rv) (k : Nat) : w.frozen? ⟨b, k, none⟩ = false := h.blk.frozen k

theorem fcells_slot (m : PM) (sv : Nat → Value) (rv : Value) (k : Nat) (hk : k < 6) (s : PSlot) :
    (((((((fcells m sv rv).set (21 + k * 7) (.int .i64 s.st)).set (21 + k * 7 + 1) (.bool s.old)).set (21 + k * 7 + 2) (.int .i64 s.served)).set (21 + k * 7 + 3) (.int .i64 s.since)).set (21 + k * 7 + 4) (.int .i64 s.conn)).set (21 + k * 7 + 5) (.int .i64 s.id)).set (21 + k * 7 + 6) (.string s.job) =
      fcells { m with slot := upd m.slot k s } sv rv := by
  rcases k with _ | _ | _ | _ | _ | _ | k <;> first | rfl | omega
end
end Go.Proofs.Ytlafkpaljibonaa

namespace Go.Proofs.Ytlafkpaljibonaa
open Go.RowKit

set_option maxRecDepth 100000 in
set_option maxHeartbeats 400000 in
theorem within_any (n a b : Int) (w : World) :
    Calls Try.prog 81 #[.int .i64 n, .int .i64 a, .int .i64 b] w fun r w' => r = .returned (.bool (decide (a ≤ n) && decide (n ≤ b))) ∧ w' = w := by
  go_enter Try.func81, Try.ntmps81
  go_wp2
  all_goals (go_ret; exact ⟨by simp [*] <;> omega, rfl⟩)

def isC (n : Int) : Bool := decide (0 ≤ n) && decide (n ≤ 3)
def isS (n : Int) : Bool := decide (0 ≤ n) && decide (n ≤ 5)

set_option maxRecDepth 100000 in
set_option maxHeartbeats 400000 in
theorem isConnection_any (n : Int) (w : World) :
    Calls Try.prog 56 #[.int .i64 n] w fun r w' => r = .returned (.bool (isC n)) ∧ w' = w := by
  go_enter Try.func56, Try.ntmps56
  go_wp2_with fail
  refine (within_any _ _ _ _).mono ?_
  rintro e w1 ⟨rfl, rfl⟩
  go_wp2
  go_ret
  exact ⟨rfl, rfl⟩

set_option maxRecDepth 100000 in
set_option maxHeartbeats 400000 in
theorem isSlot_any (n : Int) (w : World) :
    Calls Try.prog 69 #[.int .i64 n] w fun r w' => r = .returned (.bool (isS n)) ∧ w' = w := by
  go_enter Try.func69, Try.ntmps69
  go_wp2_with fail
  refine (within_any _ _ _ _).mono ?_
  rintro e w1 ⟨rfl, rfl⟩
  go_wp2
  go_ret
  exact ⟨rfl, rfl⟩

theorem isC_cases (n : Int) : (isC n = false) ∨ (isC n = true ∧ ∃ k : Nat, k < 4 ∧ n = k) := by
  cases h : isC n
  · exact .inl rfl
  · right
    simp only [isC, Bool.and_eq_true, decide_eq_true_eq] at h
    exact ⟨rfl, n.toNat, by omega, by omega⟩

theorem isS_cases (n : Int) : (isS n = false) ∨ (isS n = true ∧ ∃ k : Nat, k < 6 ∧ n = k) := by
  cases h : isS n
  · exact .inl rfl
  · right
    simp only [isS, Bool.and_eq_true, decide_eq_true_eq] at h
    exact ⟨rfl, n.toNat, by omega, by omega⟩

def PM.open_ (m : PM) (n : Int) : Bool := isC n && (m.con n.toNat).op

section
variable {o : Nat → Tag} {q : Nat} {w : World} {b : Nat} {m : PM} {sv : Nat → Value} {rv : Value}

set_option maxRecDepth 100000 in
set_option maxHeartbeats 400000 in
theorem open_any (h : FMem o q w b m sv rv) (n : Int) :
    Calls Try.prog 40 #[.pointer (some ⟨b, 0, none⟩), .int .i64 n] w fun r w' => r = .returned (.bool (m.open_ n)) ∧ w' = w := by
  rcases isC_cases n with h0 | ⟨h0, k, hk, rfl⟩
  · unfold PM.open_
    go_enter Try.func40, Try.ntmps40
    go_wp2_with fail
    refine (isConnection_any _ _).mono ?_
    rintro e w1 ⟨rfl, rfl⟩
    rw [h0]
    go_wp2
    go_ret
    exact ⟨by simp [h0], rfl⟩
  · have h1 := h.op hk
    unfold PM.open_
    rw [h0]
    simp only [Bool.true_and, Int.toNat_natCast]
    go_enter Try.func40, Try.ntmps40
    go_wp2_with fail
    refine (isConnection_any _ _).mono ?_
    rintro e w1 ⟨rfl, rfl⟩
    rw [h0]
    go_wp2
    go_ret
    exact ⟨rfl, rfl⟩

set_option maxRecDepth 100000 in
set_option maxHeartbeats 400000 in
theorem time_any (h : FMem o q w b m sv rv) :
    Calls Try.prog 60 #[.pointer (some ⟨b, 0, none⟩)] w fun r w' => r = .returned (.int .i64 m.time) ∧ w' = w := by
  have h1 := h.timec
  go_enter Try.func60, Try.ntmps60
  go_wp2
  go_ret
  exact ⟨rfl, rfl⟩

def slotVal (s : PSlot) : Value := .agg #[.int .i64 s.st, .bool s.old, .int .i64 s.served, .int .i64 s.since, .int .i64 s.conn, .int .i64 s.id]
def slotNil : Value := .agg #[.int .i64 0, .bool false, .int .i64 0, .int .i64 0, .int .i64 0, .int .i64 0]
def PM.slotV (m : PM) (n : Int) : Value := cond (isS n) (slotVal (m.slot n.toNat)) slotNil
def slotE (n : Int) : Int := cond (isS n) 0 5

set_option maxRecDepth 100000 in
set_option maxHeartbeats 400000 in
theorem slot_any (h : FMem o q w b m sv rv) (n : Int) :
    Calls Try.prog 35 #[.pointer (some ⟨b, 0, none⟩), .int .i64 n] w fun r w' => r = .returned (.tuple #[m.slotV n, .int .i64 (slotE n)]) ∧ Below w.heap.size w w' := by
  rcases isS_cases n with h0 | ⟨h0, k, hk, rfl⟩
  · simp only [PM.slotV, slotE, h0, cond_false]
    go_enter Try.func35, Try.ntmps35
    go_wp2_with fail
    refine (isSlot_any _ _).mono ?_
    rintro e w1 ⟨rfl, rfl⟩
    rw [h0]
    go_wp2
    exact bodyPost_ret (v := .tuple #[slotNil, .int .i64 5]) (by simp [results, Try.results35, go_sem, slotNil]) rfl ⟨rfl, (Below.refl _ _).alloc (Nat.le_refl _) _⟩
  · have hc := fun ob => (h.alloc ob).slotc hk
    have c0 := fun ob => (hc ob).1
    have c1 := fun ob => (hc ob).2.1
    have c2 := fun ob => (hc ob).2.2.1
    have c3 := fun ob => (hc ob).2.2.2.1
    have c4 := fun ob => (hc ob).2.2.2.2.1
    have c5 := fun ob => (hc ob).2.2.2.2.2.1
    clear hc
    simp only [PM.slotV, slotE, h0, cond_true, Int.toNat_natCast, slotVal]
    go_enter Try.func35, Try.ntmps35
    go_wp2_with fail
    refine (isSlot_any _ _).mono ?_
    rintro e w1 ⟨rfl, rfl⟩
    rw [h0]
    go_wp2
    exact bodyPost_ret (v := .tuple #[slotVal (m.slot k), .int .i64 0]) (by simp [results, Try.results35, go_sem, slotVal]) rfl ⟨rfl, (Below.refl _ _).alloc (Nat.le_refl _) _⟩

def PM.jobV (m : PM) (n : Int) : ByteArray := cond (isS n && (m.slot n.toNat).st == 3) (m.slot n.toNat).job ⟨#[]⟩
def PM.stE (m : PM) (n st : Int) : Int := cond (isS n) (cond ((m.slot n.toNat).st == st) 0 6) 5
def PM.jobE (m : PM) (n : Int) : Int := m.stE n 3

set_option maxRecDepth 100000 in
set_option maxHeartbeats 400000 in
theorem checkState_any (h : FMem o q w b m sv rv) (n st : Int) :
    Calls Try.prog 66 #[.pointer (some ⟨b, 0, none⟩), .int .i64 n, .int .i64 st] w fun r w' => r = .returned (.int .i64 (m.stE n st)) ∧ w' = w := by
  unfold PM.stE
  rcases isS_cases n with h0 | ⟨h0, k, hk, rfl⟩
  · simp only [h0, cond_false]
    go_enter Try.func66, Try.ntmps66
    go_wp2_with fail
    refine (isSlot_any _ _).mono ?_
    rintro e w1 ⟨rfl, rfl⟩
    rw [h0]
    go_wp2
    go_ret
    exact ⟨rfl, rfl⟩
  · obtain ⟨c0, -⟩ := h.slotc hk
    simp only [h0, cond_true, Int.toNat_natCast]
    generalize (m.slot k).st = s at *
    by_cases hs : s = st
    · subst hs
      simp only [beq_self_eq_true, cond_true]
      go_enter Try.func66, Try.ntmps66
      go_wp2_with fail
      refine (isSlot_any _ _).mono ?_
      rintro e w1 ⟨rfl, rfl⟩
      rw [h0]
      go_wp2
      go_ret
      exact ⟨rfl, rfl⟩
    · have hs2 : (s == st) = false := by simpa using hs
      simp only [hs2, cond_false]
      go_enter Try.func66, Try.ntmps66
      go_wp2_with fail
      refine (isSlot_any _ _).mono ?_
      rintro e w1 ⟨rfl, rfl⟩
      rw [h0]
      go_wp2
      go_ret
      exact ⟨rfl, rfl⟩

set_option maxRecDepth 100000 in
set_option maxHeartbeats 400000 in
theorem job_any (h : FMem o q w b m sv rv) (n : Int) :
    Calls Try.prog 59 #[.pointer (some ⟨b, 0, none⟩), .int .i64 n] w fun r w' => r = .returned (.tuple #[.string (m.jobV n), .int .i64 (m.jobE n)]) ∧ w' = w := by
  have k1 : Hid (Calls Try.prog 66 #[.pointer (some ⟨b, 0, none⟩), .int .i64 n, .int .i64 3] w fun r w'' => r = .returned (.int .i64 (m.stE n 3)) ∧ w'' = w) := checkState_any h n 3
  unfold PM.jobE
  rcases isS_cases n with h0 | ⟨h0, k, hk, rfl⟩
  · have e : m.stE n 3 = 5 := by simp [PM.stE, h0]
    rw [e] at k1 ⊢
    simp only [PM.jobV, h0, Bool.false_and, cond_false]
    go_enter Try.func59, Try.ntmps59
    go_wp2_with fail
    refine k1.out.mono ?_
    rintro e w1 ⟨rfl, rfl⟩
    go_wp2
    go_ret2
    exact ⟨rfl, rfl⟩
  · obtain ⟨c0, -, -, -, -, -, c6⟩ := h.slotc hk
    by_cases h3 : (m.slot k).st = 3
    · have e : m.stE (k : Int) 3 = 0 := by simp [PM.stE, h0, h3]
      rw [e] at k1 ⊢
      simp only [PM.jobV, h0, Int.toNat_natCast, Bool.true_and, h3, beq_self_eq_true, cond_true]
      clear h3
      go_enter Try.func59, Try.ntmps59
      go_wp2_with fail
      refine k1.out.mono ?_
      rintro e w1 ⟨rfl, rfl⟩
      go_wp2
      go_ret2
      exact ⟨rfl, rfl⟩
    · have h3' : ((m.slot k).st == 3) = false := by simpa using h3
      have e : m.stE (k : Int) 3 = 6 := by simp [PM.stE, h0, h3']
      rw [e] at k1 ⊢
      simp only [PM.jobV, h0, Int.toNat_natCast, Bool.true_and, h3', cond_false]
      clear h3 h3'
      go_enter Try.func59, Try.ntmps59
      go_wp2_with fail
      refine k1.out.mono ?_
      rintro e w1 ⟨rfl, rfl⟩
      go_wp2
      go_ret2
      exact ⟨rfl, rfl⟩

def slotsCells (m : PM) : List Value := (m.slot 0).cells ++ ((m.slot 1).cells ++ ((m.slot 2).cells ++ ((m.slot 3).cells ++ ((m.slot 4).cells ++ (m.slot 5).cells))))

theorem slots_range (h : FMem o q w b m sv rv) : w.rangeAt b 21 (slotsCells m) := by
  intro j v hv
  refine h.blk.cell ?_
  have e : fcells m sv rv = (m.set.cells ++ .int .i64 m.time :: ((m.con 0).cells (sv 0) ++ ((m.con 1).cells (sv 1) ++ ((m.con 2).cells (sv 2) ++ ((m.con 3).cells (sv 3) ++ [rv]))))) ++ slotsCells m := by
    simp [fcells, slotsCells]
  rw [e, List.getElem?_append_right (by simp [Cfg.cells, PConn.cells])]
  simpa [Cfg.cells, PConn.cells] using hv

theorem slots_info (m : PM) : (Try.prog.info? 101).map (·.size) = some (slotsCells m).length := by
  simp only [slotsCells, PSlot.cells]; kernel_rfl

theorem infoPlace : (Try.prog.info? 100).map (fun i => (i.zero, i.size, i.bytes)) = some (some (.agg #[.int .i64 0, .bool false, .int .i64 0, .int .i64 0, .int .i64 0, .int .i64 0, .string ⟨#[]⟩]), 7, 64) := by kernel_rfl

set_option maxRecDepth 100000 in
theorem index_slots (m : PM) (k : Nat) (hk : k < 6) (w : World) : (Instr.index 101 (.agg (slotsCells m).toArray) (.int .i64 k)).run Try.prog w = .ok (.agg (m.slot k).cells.toArray) w := by
  obtain ⟨i0, hi, hz0, hz1, hz2⟩ := info_parts infoPlace
  have h1 : (0 : Int) ≤ k ∧ (k : Int) < 6 := by omega
  simp [Instr.index, run_underlying Try.underlying101, asIntOf, h1, sizeOf, typeInfo, hi, hz1, part, isAgg, run_underlying Try.underlying100]
  rcases k with _ | _ | _ | _ | _ | _ | k
  all_goals first | rfl | omega

/-- How many of the first k slots are not Empty. -/
def PM.usedTo (m : PM) : Nat → Int
  | 0 => 0
  | k + 1 => m.usedTo k + (if (m.slot k).st == 0 then 0 else 1)

theorem PM.usedTo_bd (m : PM) (k : Nat) : 0 ≤ m.usedTo k ∧ m.usedTo k ≤ k := by
  induction k with
  | zero => simp [PM.usedTo]
  | succ k ih => simp only [PM.usedTo]; split <;> omega

/-- How many of the first k slots are in that state. -/
def PM.inTo (m : PM) (st : Int) : Nat → Int
  | 0 => 0
  | k + 1 => m.inTo st k + (if (m.slot k).st == st then 1 else 0)

theorem PM.inTo_bd (m : PM) (st : Int) (k : Nat) : 0 ≤ m.inTo st k ∧ m.inTo st k ≤ k := by
  induction k with
  | zero => simp [PM.inTo]
  | succ k ih => simp only [PM.inTo]; split <;> omega

theorem PM.used_in (m : PM) (k : Nat) : m.usedTo k = k - m.inTo 0 k := by
  induction k with
  | zero => rfl
  | succ k ih =>
    simp only [PM.usedTo, PM.inTo, ih]
    cases ((m.slot k).st == 0) <;> simp <;> omega

set_option maxRecDepth 100000 in
set_option maxHeartbeats 1000000 in
theorem inState_any (h : FMem o q w b m sv rv) (st : Int) :
    Calls Try.prog 89 #[.pointer (some ⟨b, 0, none⟩), .int .i64 st] w fun r w' => r = .returned (.int .i64 (m.inTo st 6)) ∧ Below w.heap.size w w' := by
  have hl := slots_range h
  have hn := slots_info m
  have hi := index_slots m
  generalize slotsCells m = SC at *
  simp only [PSlot.cells] at hi
  go_enter Try.func89, Try.ntmps89
  go_wp2_with (refine wpList_load_mid rfl 101 (.tmp 10) rfl b 21 rfl SC _ hl Try.underlying101 rfl hn ?_)
  go_loopw [5, 12] (fun c i w' => ∃ k : Nat, k ≤ 6 ∧ c = .int .i64 (m.inTo st k) ∧ i = .int .i64 k ∧ Below w.heap.size w w') (fun _ i _ => 6 - (intOf i).toNat)
  case atStart => exact ⟨0, by omega, rfl, rfl, Below.refl _ _⟩
  case round =>
    obtain ⟨k, hk, rfl, rfl, hb⟩ := hrel
    by_cases hlt : k < 6
    · have hik := hi k hlt
      clear hi hl hn
      have hbd := m.inTo_bd st k
      go_wp2
      all_goals
        refine ⟨⟨k + 1, by omega, ?_, by go_num, hb.alloc hb.size _⟩, by simp [intOf]; omega⟩
        simp only [PM.inTo]
        simp_all
    · have : k = 6 := by omega
      subst this
      go_wp2
      go_ret
      exact ⟨rfl, hb⟩

set_option maxRecDepth 100000 in
set_option maxHeartbeats 1000000 in
theorem used_any (h : FMem o q w b m sv rv) :
    Calls Try.prog 86 #[.pointer (some ⟨b, 0, none⟩)] w fun r w' => r = .returned (.int .i64 (m.usedTo 6)) ∧ Below w.heap.size w w' := by
  have kc : Hid (∀ w', FMem o q w' b m sv rv → Calls Try.prog 89 #[.pointer (some ⟨b, 0, none⟩), .int .i64 0] w' fun r w'' => r = .returned (.int .i64 (m.inTo 0 6)) ∧ Below w'.heap.size w' w'') := fun w' h' => inState_any h' 0
  have hbd := m.inTo_bd 0 6
  rw [m.used_in 6]
  generalize m.inTo 0 6 = u at *
  go_enter Try.func86, Try.ntmps86
  go_wp2_with fail
  refine (kc.out _ h).mono ?_
  rintro e w1 ⟨rfl, hb⟩
  go_wp2
  go_ret
  exact ⟨rfl, hb⟩

end
end Go.Proofs.Ytlafkpaljibonaa

namespace Go.Proofs.Ytlafkpaljibonaa
open Go.RowKit

def newSlot (st : Int) : PSlot := ⟨st, false, 0, 0, -1, 0, ⟨#[]⟩⟩

set_option maxRecDepth 100000 in
set_option maxHeartbeats 400000 in
theorem newPlace_any (st : Int) (w : World) :
    Calls Try.prog 74 #[.int .i64 st] w fun r w' => r = .returned (.agg #[.int .i64 st, .bool false, .int .i64 0, .int .i64 0, .int .i64 (-1), .int .i64 0, .string ⟨#[]⟩]) ∧ Below w.heap.size w w' := by
  go_enter Try.func74, Try.ntmps74
  go_wp2
  exact bodyPost_ret (v := .agg #[.int .i64 st, .bool false, .int .i64 0, .int .i64 0, .int .i64 (-1), .int .i64 0, .string ⟨#[]⟩]) (by simp [results, Try.results74, go_sem]) rfl ⟨rfl, (Below.refl _ _).alloc (Nat.le_refl _) _⟩

section
variable {o : Nat → Tag} {q : Nat} {w : World} {b : Nat} {m : PM} {sv : Nat → Value} {rv : Value}

/-- A slot's seven cells are written. -/
theorem FMem.putSlot (h : FMem o q w b m sv rv) {k : Nat} (hk : k < 6) (s : PSlot) :
    FMem o q (((((((w.setCell ⟨b, 21 + k * 7, none⟩ (.int .i64 s.st)).setCell ⟨b, 21 + k * 7 + 1, none⟩ (.bool s.old)).setCell ⟨b, 21 + k * 7 + 2, none⟩ (.int .i64 s.served)).setCell ⟨b, 21 + k * 7 + 3, none⟩ (.int .i64 s.since)).setCell ⟨b, 21 + k * 7 + 4, none⟩ (.int .i64 s.conn)).setCell ⟨b, 21 + k * 7 + 5, none⟩ (.int .i64 s.id)).setCell ⟨b, 21 + k * 7 + 6, none⟩ (.string s.job))
      b { m with slot := upd m.slot k s } sv rv := by
  refine h.put ?_ (by simp [World.setCell]) ?_ (fun _ _ => rfl) rfl
  · rw [← fcells_slot m sv rv k hk s]
    exact ((((((h.blk.set _ _).set _ _).set _ _).set _ _).set _ _).set _ _).set _ _
  · intro g hg
    repeat rw [Below.heap_setCell _ _ _ g (by simpa using hg)]

theorem FMem.fr_put {w' : World} {m' : PM} (h : FMem o q w b m sv rv) (h' : FMem o q w' b m' sv rv) (h1 : w'.os = w.os) (h2 : w'.tape = w.tape) (h3 : w'.output = w.output) (h4 : w'.heap.size = w.heap.size)
    (hb : ∀ g, g ≠ b → w'.heap[g]? = w.heap[g]?) : Fr q o w o w' :=
  ⟨h1, h2, h3, Nat.le_of_eq h4.symm, h'.clean, fun _ _ => rfl, fun g _ hg => hb g (by rintro rfl; rw [h.tag] at hg; exact hg rfl)⟩

/-- The first k slots are looked at: the Empty ones become Starting, as long as some are missing. -/
def startTo (m : PM) (u : Int) : Nat → PM × Int
  | 0 => (m, u)
  | k + 1 =>
    let r := startTo m u k
    cond (decide (r.2 < m.set.ch) && (r.1.slot k).st == 0) ({ r.1 with slot := upd r.1.slot k (newSlot 1) }, r.2 + 1) r

theorem startTo_set (m : PM) (u : Int) (k : Nat) : (startTo m u k).1.set = m.set := by
  induction k with
  | zero => rfl
  | succ k ih =>
    simp only [startTo]
    cases h : (decide ((startTo m u k).2 < m.set.ch) && ((startTo m u k).1.slot k).st == 0) <;> simp [ih]

theorem startTo_bd (m : PM) (u : Int) (k : Nat) : u ≤ (startTo m u k).2 ∧ (startTo m u k).2 ≤ u + k := by
  induction k with
  | zero => simp [startTo]
  | succ k ih =>
    simp only [startTo]
    cases h : (decide ((startTo m u k).2 < m.set.ch) && ((startTo m u k).1.slot k).st == 0) <;> simp <;> omega

def PM.startMissing (m : PM) : PM := (startTo m (m.usedTo 6) 6).1

/-- The first of the first k slots that is Empty. -/
def PM.emptyTo (m : PM) : Nat → Option Nat
  | 0 => none
  | k + 1 =>
    match m.emptyTo k with
    | some a => some a
    | none => cond ((m.slot k).st == 0) (some k) none

theorem PM.emptyTo_lt {m : PM} : ∀ {k a : Nat}, m.emptyTo k = some a → a < k ∧ (m.slot a).st = 0
  | 0, _, h => by simp [PM.emptyTo] at h
  | k + 1, a, h => by
    unfold PM.emptyTo at h
    cases e : m.emptyTo k with
    | some a' =>
      rw [e] at h
      simp only [Option.some.injEq] at h
      subst h
      have := PM.emptyTo_lt e
      exact ⟨by omega, this.2⟩
    | none =>
      rw [e] at h
      cases e2 : ((m.slot k).st == 0)
      · rw [e2] at h; simp at h
      · rw [e2] at h
        simp only [cond_true, Option.some.injEq] at h
        subst h
        exact ⟨by omega, by simpa using e2⟩

theorem PM.emptyTo_none {m : PM} : ∀ {k : Nat}, m.emptyTo k = none → ∀ j, j < k → ((m.slot j).st == 0) = false
  | 0, _, j, hj => by omega
  | k + 1, h, j, hj => by
    unfold PM.emptyTo at h
    cases e : m.emptyTo k with
    | some a' => rw [e] at h; simp at h
    | none =>
      rw [e] at h
      by_cases hjk : j = k
      · subst hjk
        cases e2 : ((m.slot j).st == 0)
        · rfl
        · rw [e2] at h; simp at h
      · exact PM.emptyTo_none e j (by omega)

def PM.startAt (m : PM) (a : Nat) : PM := { m with slot := upd m.slot a (newSlot 1) }

/-- The first Empty slot becomes Starting. -/
def PM.startOne (m : PM) : PM :=
  match m.emptyTo 6 with
  | some a => m.startAt a
  | none => m

theorem PM.startOne_set (m : PM) : m.startOne.set = m.set := by
  unfold PM.startOne
  cases m.emptyTo 6 <;> rfl

def PM.startN (m : PM) : Nat → PM
  | 0 => m
  | n + 1 => (m.startN n).startOne

theorem PM.startN_set (m : PM) : ∀ n, (m.startN n).set = m.set
  | 0 => rfl
  | n + 1 => (PM.startOne_set _).trans (PM.startN_set m n)

theorem PM.startN_first (m : PM) : ∀ n, m.startN (n + 1) = m.startOne.startN n
  | 0 => rfl
  | n + 1 => by
    show (m.startN (n + 1)).startOne = (m.startOne.startN n).startOne
    rw [PM.startN_first m n]

theorem startTo_succ (m : PM) (u : Int) (k : Nat) : startTo m u (k + 1) = cond (decide ((startTo m u k).2 < m.set.ch) && ((startTo m u k).1.slot k).st == 0) ({ (startTo m u k).1 with slot := upd (startTo m u k).1.slot k (newSlot 1) }, (startTo m u k).2 + 1) (startTo m u k) := rfl

theorem startTo_done (m : PM) {u : Int} (h : m.set.ch ≤ u) : ∀ k, startTo m u k = (m, u)
  | 0 => rfl
  | k + 1 => by
    have hn : decide (u < m.set.ch) = false := by simpa using h
    rw [startTo_succ, startTo_done m h k]
    simp only [hn, Bool.false_and, cond_false]

theorem startTo_step (m : PM) {u : Int} (h : u < m.set.ch) : ∀ k, startTo m u k = match m.emptyTo k with
    | some a => startTo (m.startAt a) (u + 1) k
    | none => (m, u)
  | 0 => rfl
  | k + 1 => by
    have ih := startTo_step m h k
    have he : m.emptyTo (k + 1) = match m.emptyTo k with
      | some a => some a
      | none => cond ((m.slot k).st == 0) (some k) none := rfl
    rw [he]
    cases e : m.emptyTo k with
    | some a =>
      rw [e] at ih
      simp only at ih ⊢
      rw [startTo_succ, startTo_succ, ih]
      rfl
    | none =>
      rw [e] at ih
      simp only at ih ⊢
      rw [startTo_succ, ih]
      have hd : decide (u < m.set.ch) = true := by simpa using h
      simp only [hd, Bool.true_and]
      cases e2 : ((m.slot k).st == 0)
      · rfl
      · simp only [cond_true]
        have hno := PM.emptyTo_none e
        have key : ∀ j, j ≤ k → startTo (m.startAt k) (u + 1) j = (m.startAt k, u + 1) := by
          intro j hj
          induction j with
          | zero => rfl
          | succ j ihj =>
            rw [startTo_succ, ihj (by omega)]
            have : (((m.startAt k).slot j).st == 0) = false := by
              simp only [PM.startAt, upd_other _ _ (show j ≠ k by omega)]
              exact hno j (by omega)
            simp only [this, Bool.and_false, cond_false]
        rw [startTo_succ, key k (Nat.le_refl _)]
        have : (((m.startAt k).slot k).st == 0) = false := by simp [PM.startAt, newSlot]
        simp only [this, Bool.and_false, cond_false]
        rfl

theorem startN_eq : ∀ (n : Nat) (m : PM) (u : Int), (m.set.ch - u).toNat = n → (startTo m u 6).1 = m.startN n
  | 0, m, u, h => by rw [startTo_done m (by omega)]; rfl
  | n + 1, m, u, h => by
    have hu : u < m.set.ch := by omega
    rw [PM.startN_first, startTo_step m hu 6]
    have e0 : m.startOne = match m.emptyTo 6 with
      | some a => m.startAt a
      | none => m := rfl
    cases e : m.emptyTo 6 with
    | some a =>
      rw [e] at e0
      simp only at e0 ⊢
      rw [e0]
      exact startN_eq n _ _ (by show (m.set.ch - (u + 1)).toNat = n; omega)
    | none =>
      rw [e] at e0
      simp only at e0 ⊢
      rw [e0]
      have : ∀ n, m.startN n = m := by
        intro n
        induction n with
        | zero => rfl
        | succ n ih => show (m.startN n).startOne = m; rw [ih, e0]
      rw [this]

set_option maxRecDepth 100000 in
set_option maxHeartbeats 2000000 in
theorem startOne_any (h : FMem o q w b m sv rv) :
    Calls Try.prog 88 #[.pointer (some ⟨b, 0, none⟩)] w fun r w' => r = .returned (.tuple #[]) ∧ FMem o q w' b m.startOne sv rv ∧ Fr q o w o w' := by
  have H0 : Hid (m.startOne = match m.emptyTo 6 with
    | some a => m.startAt a
    | none => m) := rfl
  go_enter Try.func88, Try.ntmps88
  go_wp2
  go_loopw [3] (fun i w' => ∃ k : Nat, k ≤ 6 ∧ i = .int .i64 k ∧ m.emptyTo k = none ∧ w' = w) (fun i _ => 6 - (intOf i).toNat)
  case atStart => exact ⟨0, by omega, rfl, rfl, rfl⟩
  case round =>
    obtain ⟨k, hk, rfl, he, hw⟩ := hrel
    subst hw
    have HE : Hid _ := he
    clear he
    by_cases hlt : k < 6
    · obtain ⟨c0, -⟩ := h.slotc hlt
      have hkI : (k : Int) < 6 := by omega
      have HS : Hid (m.emptyTo (k + 1) = cond ((m.slot k).st == 0) (some k) none) := by
        have := HE.out
        show m.emptyTo (k + 1) = _
        simp only [PM.emptyTo, this]
      by_cases g2 : (m.slot k).st = 0
      · have HS2 : Hid (m.emptyTo 6 = some k) := by
          have e1 : m.emptyTo (k + 1) = some k := by rw [HS.out, g2]; rfl
          have up : ∀ j, k + 1 ≤ j → m.emptyTo j = some k := by
            intro j hj
            induction j with
            | zero => omega
            | succ j ih =>
              by_cases ej : j = k
              · rw [ej]; exact e1
              · have := ih (by omega)
                simp only [PM.emptyTo, this]
          exact up 6 (by omega)
        have H1 : Hid (m.startOne = m.startAt k) := by show _ = _; rw [H0.out, HS2.out]
        clear HS HE
        rw [g2] at c0
        go_wp2
        have hmd := h.below (Below.refl _ _).drew
        go_region_held3 (fun w' => True) (trivial) (first | (go_at_call 74; refine (newPlace_any _ _).mono ?_; rintro e w2 ⟨rfl, hb2⟩; have hm2 := hmd.below hb2; obtain ⟨d0, d1, d2, d3, d4, d5, d6⟩ := hm2.slotc hlt; have fz := hm2.frozen))
        have hm3 := hm2.putSlot hlt (newSlot 1)
        have fr2 : Fr q o wr o w2 := (Fr.of_below h.clean (Below.refl _ _).drew).trans (Fr.of_below hmd.clean hb2)
        have fr3 := hm2.fr_put hm3 (by simp [World.setCell]) (by simp [World.setCell]) (by simp [World.setCell]) (by simp [World.setCell]) (by intro g hg; repeat rw [Below.heap_setCell _ _ _ g (by simpa using hg)])
        go_wp2
        exact bodyPost_ret (v := .tuple #[]) (by simp [results, Try.results88, go_sem]) rfl ⟨rfl, by rw [H1.out]; exact hm3, fr2.trans fr3⟩
      · have g3 : ((m.slot k).st == 0) = false := by simpa using g2
        have HS2 : Hid (m.emptyTo (k + 1) = none) := by show _ = _; rw [HS.out, g3]; rfl
        clear HS HE
        go_wp2
        exact ⟨⟨k + 1, by omega, by go_num, HS2.out, by first | rfl | trivial⟩, by simp [intOf]; omega⟩
    · have : k = 6 := by omega
      subst this
      have H1 : Hid (m.startOne = m) := by show _ = _; rw [H0.out, HE.out]
      go_wp2
      exact bodyPost_end (v := .tuple #[]) (by simp [results, Try.results88, go_sem]) rfl ⟨rfl, by rw [H1.out]; exact h, Fr.refl h.clean⟩

set_option maxRecDepth 100000 in
set_option maxHeartbeats 2000000 in
theorem startMissing_any (h : FMem o q w b m sv rv) :
    Calls Try.prog 91 #[.pointer (some ⟨b, 0, none⟩)] w fun r w' => r = .returned (.tuple #[]) ∧ FMem o q w' b m.startMissing sv rv ∧ Fr q o w o w' := by
  have hu := m.usedTo_bd 6
  have hc : Hid (∀ (w' : World), FMem o q w' b m sv rv → Calls Try.prog 86 #[.pointer (some ⟨b, 0, none⟩)] w' fun r w'' => r = .returned (.int .i64 (m.usedTo 6)) ∧ Below w'.heap.size w' w'') := fun w' h' => used_any h'
  have HE : Hid (m.startMissing = m.startN (m.set.ch - m.usedTo 6).toNat) := startN_eq _ _ _ rfl
  generalize m.usedTo 6 = u at *
  go_enter Try.func91, Try.ntmps91
  go_wp2_with fail
  refine (hc.out _ h).mono ?_
  rintro e w1 ⟨rfl, hb1⟩
  have hm1 := h.below hb1
  have fr1 := Fr.of_below (q := q) h.clean hb1
  clear h hb1
  go_wp2
  go_loopw [2] (fun c w' => ∃ n : Nat, (n = 0 ∨ u + n ≤ m.set.ch) ∧ c = .int .i64 (u + n) ∧ FMem o q w' b (m.startN n) sv rv ∧ Fr q o w o w') (fun c _ => (m.set.ch - intOf c).toNat)
  case atStart => exact ⟨0, .inl rfl, by simp, hm1, fr1⟩
  case round =>
    obtain ⟨n, hn, rfl, hm, hfr⟩ := hrel
    clear hm1 fr1
    have ch := hm.chc
    rw [PM.startN_set] at ch
    have few := hm.few
    rw [PM.startN_set] at few
    by_cases hlt : u + n < m.set.ch
    · go_wp2_with fail
      refine (startOne_any hm).mono ?_
      rintro e w2 ⟨rfl, hm2, fr2⟩
      clear ch
      go_wp2
      exact ⟨⟨n + 1, .inr (by omega), by go_num, hm2, hfr.trans fr2⟩, by simp [intOf]; omega⟩
    · go_wp2
      refine bodyPost_end (v := .tuple #[]) (by simp [results, Try.results91, go_sem]) rfl ⟨rfl, ?_, hfr⟩
      rw [HE.out]
      have : (m.set.ch - u).toNat = n := by omega
      rw [this]; exact hm

/-- The place of the first that waits. -/
def firstW : List Req → Nat → Option Nat
  | [], _ => none
  | r :: l, k => cond (r.stage == 1) (some k) (firstW l (k + 1))

theorem firstW_drop (l : List Req) (k : Nat) (hk : k < l.length) : firstW (l.drop k) k = cond (l[k].stage == 1) (some k) (firstW (l.drop (k + 1)) (k + 1)) := by
  rw [List.drop_eq_getElem_cons hk]; rfl

def PM.fw (m : PM) : Option Nat := firstW m.req 0
def fwV : Option Nat → Value
  | none => .tuple #[.int .i64 0, .bool false]
  | some k => .tuple #[.int .i64 k, .bool true]

theorem reqCells_get (l : List Req) (k : Nat) (hk : k < l.length) : (reqCells l)[k * 4]? = some (.int .i64 l[k].conn) ∧ (reqCells l)[k * 4 + 1]? = some (.int .i64 l[k].id) ∧ (reqCells l)[k * 4 + 2]? = some (.int .i64 l[k].stage) ∧ (reqCells l)[k * 4 + 3]? = some (.string l[k].body) := by
  induction l generalizing k with
  | nil => simp at hk
  | cons r l ih =>
    cases k with
    | zero => simp [reqCells, Req.cells]
    | succ k =>
      have := ih k (by simpa using hk)
      have e : reqCells (r :: l) = .int .i64 r.conn :: .int .i64 r.id :: .int .i64 r.stage :: .string r.body :: reqCells l := by simp [reqCells, Req.cells]
      rw [e, show (k + 1) * 4 = k * 4 + 1 + 1 + 1 + 1 from by omega]
      simpa using this

theorem reqCells_length (l : List Req) : (reqCells l).length = l.length * 4 := by
  induction l with
  | nil => rfl
  | cons r l ih => simp [reqCells, Req.cells] at *; omega

theorem req_cells (h : FMem o q w b m sv rv) (k : Nat) (hk : k < m.req.length) : ∃ g c, rv = .slice (some ⟨g, 0, none⟩) m.req.length c ∧ g < w.heap.size ∧ g ≠ b ∧ o g = (q, 6) ∧
    w.cell? ⟨g, k * 4, none⟩ = some (.int .i64 m.req[k].conn) ∧ w.cell? ⟨g, k * 4 + 1, none⟩ = some (.int .i64 m.req[k].id) ∧ w.cell? ⟨g, k * 4 + 2, none⟩ = some (.int .i64 m.req[k].stage) ∧ w.cell? ⟨g, k * 4 + 3, none⟩ = some (.string m.req[k].body) := by
  obtain ⟨h1, h2⟩ := h.reqs
  obtain ⟨g, c, rfl, -, hlt⟩ := h1.form (by omega)
  have := reqCells_get m.req k hk
  refine ⟨g, c, rfl, hlt, ?_, h2 g rfl, ?_⟩
  · rintro rfl; have := h2 g rfl; rw [h.tag] at this; simp at this
  · rw [h1.cellAt _ (by omega), h1.cellAt _ (by omega), h1.cellAt _ (by omega), h1.cellAt _ (by omega)]
    exact this

end
end Go.Proofs.Ytlafkpaljibonaa

namespace Go.Proofs.Ytlafkpaljibonaa
open Go.RowKit

theorem Row.form {o : Nat → Tag} {w : World} {t : Tag} {e : TypeId} {size n : Nat} {v : Value} {xs : List Value} (h : Row o w t e size v n xs) :
    ∃ ao c, v = .slice ao n c ∧ (n : Int) ≤ 9223372036854775807 ∧ (0 < n → ∃ g, ao = some ⟨g, 0, none⟩ ∧ o g = t ∧ g < w.heap.size) := by
  obtain ⟨h1, h2⟩ := h
  rcases h1.2 with ⟨rfl, rfl⟩ | ⟨g, cap, cur, rfl, hb, hg, hn, hc, hs, ht⟩
  · exact ⟨_, _, rfl, by omega, by omega⟩
  · refine ⟨_, _, rfl, by simp only [maxLen] at hc; omega, fun _ => ⟨g, rfl, h2 g rfl, (Array.getElem?_eq_some_iff.1 hg).1⟩⟩

section
variable {o : Nat → Tag} {q : Nat} {w : World} {b : Nat} {m : PM} {sv : Nat → Value} {rv : Value}

/-- The requests' list as a value, its rows by their numbers. -/
theorem FMem.list (h : FMem o q w b m sv rv) : ∃ ao c, rv = .slice ao m.req.length c ∧ (m.req.length : Int) ≤ 9223372036854775807 ∧
    ∀ k (hk : k < m.req.length), ∃ g, ao = some ⟨g, 0, none⟩ ∧ g < w.heap.size ∧ g ≠ b ∧ o g = (q, 6) ∧
    w.cell? ⟨g, k * 4, none⟩ = some (.int .i64 m.req[k].conn) ∧ w.cell? ⟨g, k * 4 + 1, none⟩ = some (.int .i64 m.req[k].id) ∧ w.cell? ⟨g, k * 4 + 2, none⟩ = some (.int .i64 m.req[k].stage) ∧ w.cell? ⟨g, k * 4 + 3, none⟩ = some (.string m.req[k].body) := by
  obtain ⟨ao, c, hv, hn, -⟩ := h.reqs.form
  refine ⟨ao, c, hv, hn, fun k hk => ?_⟩
  obtain ⟨g, c', hv', h1, h2, h3, h4⟩ := req_cells h k hk
  rw [hv'] at hv
  simp only [Value.slice.injEq] at hv
  exact ⟨g, hv.1.symm, h1, h2, h3, h4⟩

set_option maxRecDepth 100000 in
set_option maxHeartbeats 1000000 in
theorem firstWaiting_any (h : FMem o q w b m sv rv) :
    Calls Try.prog 108 #[.pointer (some ⟨b, 0, none⟩)] w fun r w' => r = .returned (fwV m.fw) ∧ Below w.heap.size w w' := by
  obtain ⟨ao, c, rfl, hn, hrow⟩ := h.list
  have h1 := h.reqv
  go_enter Try.func108, Try.ntmps108
  go_wp2
  go_loopw [11] (fun i w' => ∃ k : Nat, k ≤ m.req.length ∧ i = .int .i64 k ∧ m.fw = firstW (m.req.drop k) k ∧ Below w.heap.size w w') (fun i _ => m.req.length - (intOf i).toNat)
  case atStart => exact ⟨0, by omega, rfl, rfl, Below.refl _ _⟩
  case round =>
    obtain ⟨k, hk, rfl, hfw, hb⟩ := hrel
    have HF : Hid _ := hfw
    clear hfw
    by_cases hlt : k < m.req.length
    · obtain ⟨g, rfl, hg, -, -, c0, c1, c2, c3⟩ := hrow k hlt
      have hst := firstW_drop m.req k hlt
      have HS : Hid _ := hst
      clear hst hrow
      rw [← hb.cell (by exact hg)] at c0 c1 c2 c3
      generalize m.req[k] = r at *
      by_cases h1 : r.stage = 1
      · rw [h1] at c2
        go_wp2
        go_ret2
        refine ⟨?_, hb.alloc hb.size _⟩
        rw [HF.out, HS.out, h1]; rfl
      · have h2 : (r.stage == 1) = false := by simpa using h1
        go_wp2
        refine ⟨⟨k + 1, by omega, by go_num, ?_, hb.alloc hb.size _⟩, by simp [intOf]; omega⟩
        rw [HF.out, HS.out, h2]; rfl
    · have : k = m.req.length := by omega
      go_wp2
      go_ret2
      refine ⟨?_, hb⟩
      rw [HF.out, this]
      simp [firstW, fwV]

def PM.lease (m : PM) (a k : Nat) (r : Req) : PM :=
  { m with
    slot := upd m.slot k ⟨3, (m.slot k).old, wrap64 ((m.slot k).served + 1), m.time, r.conn, r.id, r.body⟩
    req := m.req.set a { r with stage := 2, body := ⟨#[]⟩ } }

theorem fcells_lease (m : PM) (sv : Nat → Value) (rv : Value) (k : Nat) (hk : k < 6) (s : PSlot) (ho : s.old = (m.slot k).old) :
    ((((((fcells m sv rv).set (21 + k * 7) (.int .i64 s.st)).set (21 + k * 7 + 3) (.int .i64 s.since)).set (21 + k * 7 + 2) (.int .i64 s.served)).set (21 + k * 7 + 4) (.int .i64 s.conn)).set (21 + k * 7 + 5) (.int .i64 s.id)).set (21 + k * 7 + 6) (.string s.job) =
      fcells { m with slot := upd m.slot k s } sv rv := by
  obtain ⟨a1, a2, a3, a4, a5, a6, a7⟩ := s
  simp only at ho
  subst ho
  rcases k with _ | _ | _ | _ | _ | _ | k <;> first | rfl | omega

theorem reqCells_stage (l : List Req) (a : Nat) (ha : a < l.length) (x : Int) : reqCells (l.set a { l[a] with stage := x }) = (reqCells l).set (a * 4 + 2) (.int .i64 x) := by
  induction l generalizing a with
  | nil => simp at ha
  | cons r l ih =>
    have e : ∀ (r : Req) l, reqCells (r :: l) = .int .i64 r.conn :: .int .i64 r.id :: .int .i64 r.stage :: .string r.body :: reqCells l := by intro r l; simp [reqCells, Req.cells]
    cases a with
    | zero => simp [e]
    | succ a =>
      have := ih a (by simpa using ha)
      rw [show (a + 1) * 4 + 2 = a * 4 + 2 + 1 + 1 + 1 + 1 from by omega]
      simp [e, this]

theorem reqCells_body (l : List Req) (a : Nat) (ha : a < l.length) (x : ByteArray) : reqCells (l.set a { l[a] with body := x }) = (reqCells l).set (a * 4 + 3) (.string x) := by
  induction l generalizing a with
  | nil => simp at ha
  | cons r l ih =>
    have e : ∀ (r : Req) l, reqCells (r :: l) = .int .i64 r.conn :: .int .i64 r.id :: .int .i64 r.stage :: .string r.body :: reqCells l := by intro r l; simp [reqCells, Req.cells]
    cases a with
    | zero => simp [e]
    | succ a =>
      have := ih a (by simpa using ha)
      rw [show (a + 1) * 4 + 3 = a * 4 + 3 + 1 + 1 + 1 + 1 from by omega]
      simp [e, this]

/-- A cell of the requests' list is written. -/
theorem FMem.setReq {g c n : Nat} (h : FMem o q w b m sv (.slice (some ⟨g, 0, none⟩) n c)) (hn : n = m.req.length) (j : Nat) (u : Value) (l : List Req) (hl : l.length = m.req.length) (hc : reqCells l = (reqCells m.req).set j u) :
    FMem o q (w.setCell ⟨g, j, none⟩ u) b { m with req := l } sv (.slice (some ⟨g, 0, none⟩) n c) ∧ Fr q o w o (w.setCell ⟨g, j, none⟩ u) := by
  subst hn
  obtain ⟨h1, h2⟩ := h.reqs
  have hgo : o g = (q, 6) := h2 g rfl
  have hgb : b ≠ g := by rintro rfl; rw [h.tag] at hgo; simp at hgo
  obtain ⟨k1, k2⟩ := h1.stored j u
  have hs : (w.setCell ⟨g, j, none⟩ u).heap.size = w.heap.size := by simp [World.setCell]
  have hcl : Clean o (w.setCell ⟨g, j, none⟩ u) := h.clean.le (Nat.le_of_eq hs.symm)
  have hcon : fcells { m with req := l } sv (.slice (some ⟨g, 0, none⟩) m.req.length c) = fcells m sv (.slice (some ⟨g, 0, none⟩) m.req.length c) := rfl
  refine ⟨⟨hcl, h.tag, ?_, fun k hk => ?_, ?_, h.few⟩, ⟨k2.os, k2.tape, k2.output, k2.size, hcl, fun _ _ => rfl, fun x hx hq => k2.block x hx ?_⟩⟩
  · rw [hcon]; exact h.blk.keep (Below.heap_setCell _ _ _ b hgb)
  · refine (h.sent k hk).keep (fun _ _ => rfl) fun x _ hx => Below.heap_setCell _ _ _ x ?_
    rintro rfl; rw [hgo] at hx; simp at hx; omega
  · show Row _ _ _ _ _ _ l.length (reqCells l)
    rw [hl, hc]; exact ⟨k1, h2⟩
  · rintro e
    simp only [Option.some.injEq] at e
    subst e
    rw [hgo] at hq; exact hq rfl

set_option maxRecDepth 100000 in
set_option maxHeartbeats 2000000 in
theorem lease_any (h : FMem o q w b m sv rv) (a k : Nat) (ha : a < m.req.length) (hk : k < 6) :
    Calls Try.prog 109 #[.pointer (some ⟨b, 0, none⟩), .int .i64 a, .int .i64 k] w fun r w' => r = .returned (.tuple #[]) ∧ FMem o q w' b (m.lease a k m.req[a]) sv rv ∧ Fr q o w o w' := by
  obtain ⟨ao, c, rfl, hn, hrow⟩ := h.list
  obtain ⟨g, rfl, hg, hgb, hgo, c0, c1, c2, c3⟩ := hrow a ha
  obtain ⟨d0, d1, d2, d3, d4, d5, d6⟩ := h.slotc hk
  have h1 := h.reqv
  have fz := h.frozen
  have fg : ∀ j, w.frozen? ⟨g, j, none⟩ = false := fun j => h.reqs.1.frozenAt j
  have ht := h.timec
  have hbg : b ≠ g := fun e => hgb e.symm
  go_enter Try.func109, Try.ntmps109
  go_wp2
  refine bodyPost_end (v := .tuple #[]) (by simp [results, Try.results109, go_sem]) rfl ⟨rfl, ?_⟩
  have hb1 := fcells_lease m sv (.slice (some ⟨g, 0, none⟩) m.req.length c) k hk ⟨3, (m.slot k).old, wrap64 ((m.slot k).served + 1), m.time, m.req[a].conn, m.req[a].id, m.req[a].body⟩ rfl
  have hb2 := (((((h.blk.set (21 + k * 7) (.int .i64 3)).set (21 + k * 7 + 3) (.int .i64 m.time)).set (21 + k * 7 + 2) (.int .i64 (wrap64 ((m.slot k).served + 1)))).set (21 + k * 7 + 4) (.int .i64 m.req[a].conn)).set (21 + k * 7 + 5) (.int .i64 m.req[a].id)).set (21 + k * 7 + 6) (.string m.req[a].body)
  rw [hb1] at hb2
  have hoth : ∀ x, x ≠ b → (((((((w.setCell ⟨b, 21 + k * 7, none⟩ (.int .i64 3)).setCell ⟨b, 21 + k * 7 + 3, none⟩ (.int .i64 m.time)).setCell ⟨b, 21 + k * 7 + 2, none⟩ (.int .i64 (wrap64 ((m.slot k).served + 1)))).setCell ⟨b, 21 + k * 7 + 4, none⟩ (.int .i64 m.req[a].conn)).setCell ⟨b, 21 + k * 7 + 5, none⟩ (.int .i64 m.req[a].id)).setCell ⟨b, 21 + k * 7 + 6, none⟩ (.string m.req[a].body)).heap[x]?) = w.heap[x]? := by
    intro x hx
    repeat rw [Below.heap_setCell _ _ _ x (by simpa using hx)]
  have hm1 := h.put hb2 (by simp [World.setCell]) hoth (fun _ _ => rfl) rfl
  have fr1 := h.fr_put hm1 (by simp [World.setCell]) (by simp [World.setCell]) (by simp [World.setCell]) (by simp [World.setCell]) hoth
  obtain ⟨hm2, fr2⟩ := hm1.setReq rfl (a * 4 + 2) (.int .i64 2) _ (by simp) (reqCells_stage m.req a ha 2)
  have hl2 : a < (m.req.set a { m.req[a] with stage := 2 }).length := by simpa using ha
  have hx := reqCells_body (m.req.set a { m.req[a] with stage := 2 }) a hl2 ⟨#[]⟩
  simp only [List.getElem_set_self, List.set_set] at hx
  obtain ⟨hm3, fr3⟩ := hm2.setReq (by simp) (a * 4 + 3) (.string ⟨#[]⟩) _ (by simp) hx
  exact ⟨hm3, (fr1.trans fr2).trans fr3⟩

end
end Go.Proofs.Ytlafkpaljibonaa

namespace Go.Proofs.Ytlafkpaljibonaa
open Go.RowKit

theorem firstW_lt (l : List Req) (k a : Nat) (h : firstW l k = some a) : k ≤ a ∧ a < k + l.length := by
  induction l generalizing k with
  | nil => simp [firstW] at h
  | cons r l ih =>
    simp only [firstW] at h
    cases hr : (r.stage == 1)
    · rw [hr] at h
      have := ih (k + 1) h
      simp; omega
    · rw [hr] at h
      simp only [cond_true, Option.some.injEq] at h
      simp; omega

def noReq : Req := ⟨0, 0, 0, ⟨#[]⟩⟩

/-- One slot is looked at: if it is Idle, the first that waits is leased to it. -/
def PM.leaseAt (m : PM) (k : Nat) : PM :=
  match m.fw with
  | some a => cond ((m.slot k).st == 2) (m.lease a k (m.req.getD a noReq)) m
  | none => m

def PM.leaseTo (m : PM) : Nat → PM
  | 0 => m
  | k + 1 => (m.leaseTo k).leaseAt k

def PM.leaseWaiting (m : PM) : PM := m.leaseTo 6
def PM.settle (m : PM) : PM := (cond m.set.dyn m m.startMissing).leaseWaiting

section
variable {o : Nat → Tag} {q : Nat} {w : World} {b : Nat} {m : PM} {sv : Nat → Value} {rv : Value}

set_option maxRecDepth 100000 in
set_option maxHeartbeats 2000000 in
theorem leaseWaiting_any (h : FMem o q w b m sv rv) :
    Calls Try.prog 92 #[.pointer (some ⟨b, 0, none⟩)] w fun r w' => r = .returned (.tuple #[]) ∧ FMem o q w' b m.leaseWaiting sv rv ∧ Fr q o w o w' := by
  unfold PM.leaseWaiting
  go_enter Try.func92, Try.ntmps92
  go_wp2
  go_loopw [5] (fun i w' => ∃ k : Nat, k ≤ 6 ∧ i = .int .i64 k ∧ FMem o q w' b (m.leaseTo k) sv rv ∧ Fr q o w o w') (fun i _ => 6 - (intOf i).toNat)
  case atStart => exact ⟨0, by omega, rfl, h, Fr.refl h.clean⟩
  case round =>
    obtain ⟨k, hk, rfl, hm, hfr⟩ := hrel
    clear h
    by_cases hlt : k < 6
    · have HS : Hid (m.leaseTo (k + 1) = (m.leaseTo k).leaseAt k) := rfl
      generalize m.leaseTo k = M at *
      have hcall : Hid (∀ w', FMem o q w' b M sv rv → Calls Try.prog 108 #[.pointer (some ⟨b, 0, none⟩)] w' fun r w'' => r = .returned (fwV M.fw) ∧ Below w'.heap.size w' w'') := fun w' h' => firstWaiting_any h'
      cases hfw : M.fw with
      | none =>
        have HS2 : Hid (m.leaseTo (k + 1) = M) := by have := HS.out; simp only [PM.leaseAt, hfw] at this; exact this
        rw [hfw] at hcall
        go_wp2_with fail
        refine (hcall.out _ hm).mono ?_
        rintro e w1 ⟨rfl, hb⟩
        have hm1 := hm.below hb
        unfold fwV
        go_wp2
        exact ⟨⟨k + 1, by omega, by go_num, by rw [HS2.out]; exact hm1, hfr.below hb⟩, by simp [intOf]; omega⟩
      | some a =>
        have ha : a < M.req.length := by have := firstW_lt _ _ _ hfw; omega
        by_cases h2 : (M.slot k).st = 2
        · have HS2 : Hid (m.leaseTo (k + 1) = M.lease a k M.req[a]) := by
            have := HS.out; simp only [PM.leaseAt, hfw, h2, beq_self_eq_true, cond_true, List.getD, List.getElem?_eq_getElem ha, Option.getD_some] at this; exact this
          rw [hfw] at hcall
          go_wp2_with fail
          refine (hcall.out _ hm).mono ?_
          rintro e w1 ⟨rfl, hb⟩
          have hm1 := hm.below hb
          unfold fwV
          obtain ⟨c0, -⟩ := hm1.slotc hlt
          rw [h2] at c0
          clear h2 hfw
          go_wp2_with fail
          refine (lease_any hm1 a k ha hlt).mono ?_
          rintro e w2 ⟨rfl, hm2, fr2⟩
          go_wp2
          exact ⟨⟨k + 1, by omega, by go_num, by rw [HS2.out]; exact hm2, (hfr.below hb).trans fr2⟩, by simp [intOf]; omega⟩
        · have HS2 : Hid (m.leaseTo (k + 1) = M) := by
            have := HS.out
            have h3 : ((M.slot k).st == 2) = false := by simpa using h2
            simp only [PM.leaseAt, hfw, h3, cond_false] at this; exact this
          rw [hfw] at hcall
          go_wp2_with fail
          refine (hcall.out _ hm).mono ?_
          rintro e w1 ⟨rfl, hb⟩
          have hm1 := hm.below hb
          unfold fwV
          obtain ⟨c0, -⟩ := hm1.slotc hlt
          clear hfw
          go_wp2
          exact ⟨⟨k + 1, by omega, by go_num, by rw [HS2.out]; exact hm1, hfr.below hb⟩, by simp [intOf]; omega⟩
    · have : k = 6 := by omega
      subst this
      go_wp2
      exact bodyPost_end (v := .tuple #[]) (by simp [results, Try.results92, go_sem]) rfl ⟨rfl, hm, hfr⟩

set_option maxRecDepth 100000 in
set_option maxHeartbeats 1000000 in
theorem settle_any (h : FMem o q w b m sv rv) :
    Calls Try.prog 65 #[.pointer (some ⟨b, 0, none⟩)] w fun r w' => r = .returned (.tuple #[]) ∧ FMem o q w' b m.settle sv rv ∧ Fr q o w o w' := by
  have hd := h.dync
  unfold PM.settle
  cases hdyn : m.set.dyn
  · rw [hdyn] at hd
    simp only [cond_false]
    clear hdyn
    go_enter Try.func65, Try.ntmps65
    go_wp2_with fail
    refine (startMissing_any h).mono ?_
    rintro e w1 ⟨rfl, hm1, fr1⟩
    clear hd
    go_wp2_with fail
    refine (leaseWaiting_any hm1).mono ?_
    rintro e w2 ⟨rfl, hm2, fr2⟩
    go_wp2
    exact bodyPost_end (v := .tuple #[]) (by simp [results, Try.results65, go_sem]) rfl ⟨rfl, hm2, fr1.trans fr2⟩
  · rw [hdyn] at hd
    simp only [cond_true]
    clear hdyn
    go_enter Try.func65, Try.ntmps65
    go_wp2_with fail
    refine (leaseWaiting_any h).mono ?_
    rintro e w2 ⟨rfl, hm2, fr2⟩
    go_wp2
    exact bodyPost_end (v := .tuple #[]) (by simp [results, Try.results65, go_sem]) rfl ⟨rfl, hm2, fr2⟩

def PM.sent_ (m : PM) (n : Int) : ByteArray := cond (isC n) (strOfNums (m.con n.toNat).sent) ⟨#[]⟩

set_option maxRecDepth 100000 in
set_option maxHeartbeats 1000000 in
theorem sent_any (h : FMem o q w b m sv rv) (n : Int) :
    Calls Try.prog 36 #[.pointer (some ⟨b, 0, none⟩), .int .i64 n] w fun r w' => r = .returned (.string (m.sent_ n)) ∧ w' = w := by
  unfold PM.sent_
  rcases isC_cases n with h0 | ⟨h0, k, hk, rfl⟩
  · simp only [h0, cond_false]
    go_enter Try.func36, Try.ntmps36
    go_wp2_with fail
    refine (isConnection_any _ _).mono ?_
    rintro e w1 ⟨rfl, rfl⟩
    rw [h0]
    go_wp2
    go_ret
    exact ⟨rfl, rfl⟩
  · simp only [h0, cond_true, Int.toNat_natCast]
    have h1 := h.sentv hk
    have hcv := convert_own w 0 (sv k) _ _ (h.sent k hk).1
    go_enter Try.func36, Try.ntmps36
    go_wp2_with fail
    refine (isConnection_any _ _).mono ?_
    rintro e w1 ⟨rfl, rfl⟩
    rw [h0]
    go_wp2
    go_ret
    exact ⟨rfl, rfl⟩

end
end Go.Proofs.Ytlafkpaljibonaa
