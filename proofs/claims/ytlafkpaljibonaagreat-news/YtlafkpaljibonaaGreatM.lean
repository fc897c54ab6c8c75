import Derived.Test.YtlafkpaljibonaaGreatA
import Derived.Deep.AppendLies
namespace Go.Proofs.YtlafkpaljibonaaGreat
open Go.RowKit

/-- Whose a block is: an owner's number, and which of his it is. (0, 0): nobody's. -/
abbrev Tag := Nat × Nat
def Clean (o : Nat → Tag) (w : World) : Prop := ∀ g, w.heap.size ≤ g → o g = (0, 0)

/-- What may have come about while the owner q was at work. -/
structure Fr (q : Nat) (o : Nat → Tag) (w : World) (o' : Nat → Tag) (w' : World) : Prop where
  os : w'.os = w.os
  tape : w'.tape = w.tape
  output : w'.output = w.output
  size : w.heap.size ≤ w'.heap.size
  clean : Clean o' w'
  tags : ∀ g, g < w.heap.size → o' g = o g
  block : ∀ g, g < w.heap.size → (o g).1 ≠ q → w'.heap[g]? = w.heap[g]?

section
variable {q : Nat} {o o' o1 o2 : Nat → Tag} {w w' w1 w2 : World}

theorem Clean.le (h : Clean o w) (hs : w.heap.size ≤ w'.heap.size) : Clean o w' := fun g hg => h g (Nat.le_trans hs hg)

theorem Fr.refl (h : Clean o w) : Fr q o w o w := ⟨rfl, rfl, rfl, Nat.le_refl _, h, fun _ _ => rfl, fun _ _ _ => rfl⟩

theorem Fr.trans (h : Fr q o w o1 w1) (k : Fr q o1 w1 o2 w2) : Fr q o w o2 w2 :=
  ⟨k.os.trans h.os, k.tape.trans h.tape, k.output.trans h.output, Nat.le_trans h.size k.size, k.clean,
   fun g hg => (k.tags g (Nat.lt_of_lt_of_le hg h.size)).trans (h.tags g hg),
   fun g hg hq => (k.block g (Nat.lt_of_lt_of_le hg h.size) (by rw [h.tags g hg]; exact hq)).trans (h.block g hg hq)⟩

theorem Fr.of_below (hc : Clean o w) (h : Below w.heap.size w w') : Fr q o w o w' :=
  ⟨h.os, h.tape, h.output, h.size, hc.le h.size, fun _ _ => rfl, fun g hg _ => h.block g hg⟩

theorem Fr.below (h : Fr q o w o1 w1) (k : Below w1.heap.size w1 w2) : Fr q o w o1 w2 := h.trans (Fr.of_below h.clean k)

/-- What was nobody's, or another's, is as it was. -/
theorem Fr.toBelow (h : Fr q o w o' w') (B : Nat) (hB : B ≤ w.heap.size) (ho : ∀ g, g < B → (o g).1 ≠ q) : Below B w w' :=
  ⟨h.os, h.tape, h.output, h.size, fun g hg => h.block g (Nat.lt_of_lt_of_le hg hB) (ho g hg)⟩

def Tagged (o : Nat → Tag) (v : Value) (t : Tag) : Prop := ∀ g, v.ownBlock = some g → o g = t

def Row (o : Nat → Tag) (w : World) (t : Tag) (e : TypeId) (size : Nat) (v : Value) (n : Nat) (xs : List Value) : Prop :=
  w.ownsRow 0 e size v n xs ∧ Tagged o v t

variable {t : Tag} {e : TypeId} {size n : Nat} {v : Value} {xs : List Value}

theorem Row.nil (o : Nat → Tag) (w : World) (t : Tag) (e : TypeId) (size : Nat) : Row o w t e size (.slice none 0 0) 0 [] :=
  ⟨World.ownsRow_nil _ _ _ _, fun g hg => by simp [Value.ownBlock] at hg⟩

theorem Row.keep (h : Row o w t e size v n xs) (ht : ∀ g, g < w.heap.size → o' g = o g) (hb : ∀ g, g < w.heap.size → o g = t → w'.heap[g]? = w.heap[g]?) : Row o' w' t e size v n xs := by
  obtain ⟨h1, h2⟩ := h
  have hlt := h1.lt
  refine ⟨⟨h1.1, ?_⟩, fun g hg => (ht g (hlt g hg).2).trans (h2 g hg)⟩
  rcases h1.2 with hn | ⟨g, cap, cur, rfl, hb', hgg, rest⟩
  · exact .inl hn
  · exact .inr ⟨g, cap, cur, rfl, hb', by rw [hb g (hlt g rfl).2 (h2 g rfl)]; exact hgg, rest⟩

theorem Row.fr (h : Row o w t e size v n xs) (hf : Fr q o w o' w') (hq : t.1 ≠ q) : Row o' w' t e size v n xs :=
  h.keep hf.tags fun g hg ho => hf.block g hg (by rw [ho]; exact hq)

theorem Row.below (h : Row o w t e size v n xs) (hf : Below w.heap.size w w') : Row o w' t e size v n xs :=
  h.keep (fun _ _ => rfl) fun g hg _ => hf.block g hg

/-- A block whole: its cells in their order. -/
def Blk (w : World) (b : Nat) (T : TypeId) (C : List Value) : Prop := w.heap[b]? = some (.cells C.toArray T (0, 0))

variable {b : Nat} {T : TypeId} {C : List Value}

theorem Blk.lt (h : Blk w b T C) : b < w.heap.size := (Array.getElem?_eq_some_iff.1 h).1

theorem Blk.cell (h : Blk w b T C) {k : Nat} {u : Value} (hk : C[k]? = some u) : w.cell? ⟨b, k, none⟩ = some u := by
  rw [cell_of_row w b k _ T (0, 0) h]; simpa using hk

theorem Blk.frozen (h : Blk w b T C) (k : Nat) : w.frozen? ⟨b, k, none⟩ = false := frozen_of_row w b k _ T h

theorem Blk.set (h : Blk w b T C) (k : Nat) (u : Value) : Blk (w.setCell ⟨b, k, none⟩ u) b T (C.set k u) := by
  have := heap_setCell_same w b k C.toArray T u h
  simpa [Blk] using this

theorem Blk.keep (h : Blk w b T C) (hb : w'.heap[b]? = w.heap[b]?) : Blk w' b T C := hb.trans h

theorem Blk.below (h : Blk w b T C) (hf : Below w.heap.size w w') : Blk w' b T C := h.keep (hf.block b h.lt)

theorem Blk.made (w : World) (T : TypeId) (C : List Value) : Blk (w.alloc (.cells C.toArray T)) w.heap.size T C := heap_alloc_new w _

def upd {α : Type} (f : Nat → α) (k : Nat) (x : α) : Nat → α := fun i => if i = k then x else f i

@[simp] theorem upd_same {α : Type} (f : Nat → α) (k : Nat) (x : α) : upd f k x k = x := by simp [upd]
theorem upd_other {α : Type} (f : Nat → α) {k i : Nat} (x : α) (h : i ≠ k) : upd f k x i = f i := by simp [upd, h]

end

/-- The settings. -/
structure Cfg where
  ch : Int
  dyn : Bool
  mn : Int
  mx : Int
  mr : Int
  tmo : Int
  bl : Int

def Cfg.cells (c : Cfg) : List Value := [.int .i64 c.ch, .bool c.dyn, .int .i64 c.mn, .int .i64 c.mx, .int .i64 c.mr, .int .i64 c.tmo, .int .i64 c.bl]
def Cfg.val (c : Cfg) : Value := .agg #[.int .i64 c.ch, .bool c.dyn, .int .i64 c.mn, .int .i64 c.mx, .int .i64 c.mr, .int .i64 c.tmo, .int .i64 c.bl]

/-- May there be such settings? -/
def Cfg.ok (c : Cfg) : Bool := decide (1 ≤ c.ch) && decide (c.ch ≤ 6) && (decide (0 ≤ c.bl) && decide (c.bl ≤ 20)) && (decide (0 ≤ c.mr) && decide (c.mr ≤ 1000) && (decide (0 ≤ c.tmo) && decide (c.tmo ≤ 1000))) &&
  (!c.dyn || (decide (1 ≤ c.mn) && decide (c.mn ≤ c.mx) && decide (c.mx ≤ c.ch)))

/-- The program's state, as a plain value. -/
structure PConn where
  op : Bool
  rest : ByteArray
  sent : List Int

structure PSlot where
  st : Int
  old : Bool
  served : Int
  since : Int
  conn : Int
  id : Int
  job : ByteArray

structure Req where
  conn : Int
  id : Int
  stage : Int
  body : ByteArray

structure PM where
  set : Cfg
  time : Int
  con : Nat → PConn
  req : List Req
  slot : Nat → PSlot

def PConn.cells (c : PConn) (v : Value) : List Value := [.bool c.op, .string c.rest, v]
def PSlot.cells (s : PSlot) : List Value := [.int .i64 s.st, .bool s.old, .int .i64 s.served, .int .i64 s.since, .int .i64 s.conn, .int .i64 s.id, .string s.job]
def Req.cells (r : Req) : List Value := [.int .i64 r.conn, .int .i64 r.id, .int .i64 r.stage, .string r.body]
def reqCells (l : List Req) : List Value := l.flatMap Req.cells

def fcells (m : PM) (sv : Nat → Value) (rv : Value) : List Value :=
  m.set.cells ++ .int .i64 m.time :: ((m.con 0).cells (sv 0) ++ ((m.con 1).cells (sv 1) ++ ((m.con 2).cells (sv 2) ++ ((m.con 3).cells (sv 3) ++
    rv :: ((m.slot 0).cells ++ ((m.slot 1).cells ++ ((m.slot 2).cells ++ ((m.slot 3).cells ++ ((m.slot 4).cells ++ (m.slot 5).cells)))))))))

structure FMem (o : Nat → Tag) (q : Nat) (w : World) (b : Nat) (m : PM) (sv : Nat → Value) (rv : Value) : Prop where
  clean : Clean o w
  tag : o b = (q, 1)
  blk : Blk w b 64 (fcells m sv rv)
  sent : ∀ k, k < 4 → Row o w (q, 2 + k) 5 1 (sv k) (m.con k).sent.length ((m.con k).sent.map (Value.int .u8))
  reqs : Row o w (q, 6) 106 4 rv m.req.length (reqCells m.req)
  few : m.set.ch ≤ 6

section
variable {o o' : Nat → Tag} {q q' : Nat} {w w' : World} {b : Nat} {m m' : PM} {sv : Nat → Value} {rv : Value}

theorem FMem.fr (h : FMem o q w b m sv rv) (hf : Fr q' o w o' w') (hq : q ≠ q') : FMem o' q w' b m sv rv :=
  ⟨hf.clean, (hf.tags b h.blk.lt).trans h.tag, h.blk.keep (hf.block b h.blk.lt (by rw [h.tag]; exact hq)),
   fun k hk => (h.sent k hk).fr hf hq, h.reqs.fr hf hq, h.few⟩

theorem FMem.below (h : FMem o q w b m sv rv) (hf : Below w.heap.size w w') : FMem o q w' b m sv rv :=
  ⟨h.clean.le hf.size, h.tag, h.blk.below hf, fun k hk => (h.sent k hk).below hf, h.reqs.below hf, h.few⟩

theorem FMem.alloc (h : FMem o q w b m sv rv) (ob : Obj) : FMem o q (w.alloc ob) b m sv rv := h.below ((Below.refl _ _).alloc (Nat.le_refl _) ob)

/-- The struct itself was written. -/
theorem FMem.put (h : FMem o q w b m sv rv) (hb : Blk w' b 64 (fcells m' sv rv)) (hs : w'.heap.size = w.heap.size) (ho : ∀ g, g ≠ b → w'.heap[g]? = w.heap[g]?)
    (h1 : ∀ k, k < 4 → (m'.con k).sent = (m.con k).sent) (h2 : m'.req = m.req) (h3 : m'.set.ch ≤ 6 := by exact h.few) : FMem o q w' b m' sv rv :=
  ⟨h.clean.le (Nat.le_of_eq hs.symm), h.tag, hb,
   fun k hk => by rw [h1 k hk]; exact (h.sent k hk).keep (fun _ _ => rfl) fun g _ hg => ho g fun e => by rw [e, h.tag] at hg; simp at hg; omega,
   by rw [h2]; exact h.reqs.keep (fun _ _ => rfl) fun g _ hg => ho g fun e => by rw [e, h.tag] at hg; simp at hg, h3⟩

theorem FMem.op (h : FMem o q w b m sv rv) {k : Nat} (hk : k < 4) : w.cell? ⟨b, 8 + k * 3, none⟩ = some (.bool (m.con k).op) := by
  apply h.blk.cell; rcases k with _ | _ | _ | _ | k <;> first | rfl | omega
theorem FMem.rest (h : FMem o q w b m sv rv) {k : Nat} (hk : k < 4) : w.cell? ⟨b, 8 + k * 3 + 1, none⟩ = some (.string (m.con k).rest) := by
  apply h.blk.cell; rcases k with _ | _ | _ | _ | k <;> first | rfl | omega
theorem FMem.sentv (h : FMem o q w b m sv rv) {k : Nat} (hk : k < 4) : w.cell? ⟨b, 8 + k * 3 + 2, none⟩ = some (sv k) := by
  apply h.blk.cell; rcases k with _ | _ | _ | _ | k <;> first | rfl | omega
theorem FMem.slotc (h : FMem o q w b m sv rv) {k : Nat} (hk : k < 6) :
    w.cell? ⟨b, 21 + k * 7, none⟩ = some (.int .i64 (m.slot k).st) ∧ w.cell? ⟨b, 21 + k * 7 + 1, none⟩ = some (.bool (m.slot k).old) ∧ w.cell? ⟨b, 21 + k * 7 + 2, none⟩ = some (.int .i64 (m.slot k).served) ∧
    w.cell? ⟨b, 21 + k * 7 + 3, none⟩ = some (.int .i64 (m.slot k).since) ∧ w.cell? ⟨b, 21 + k * 7 + 4, none⟩ = some (.int .i64 (m.slot k).conn) ∧ w.cell? ⟨b, 21 + k * 7 + 5, none⟩ = some (.int .i64 (m.slot k).id) ∧
    w.cell? ⟨b, 21 + k * 7 + 6, none⟩ = some (.string (m.slot k).job) := by
  refine ⟨?_, ?_, ?_, ?_, ?_, ?_, ?_⟩ <;> (apply h.blk.cell; rcases k with _ | _ | _ | _ | _ | _ | k <;> first | rfl | omega)
theorem FMem.timec (h : FMem o q w b m sv rv) : w.cell? ⟨b, 7, none⟩ = some (.int .i64 m.time) := h.blk.cell rfl
theorem FMem.reqv (h : FMem o q w b m sv rv) : w.cell? ⟨b, 20, none⟩ = some rv := h.blk.cell rfl
theorem FMem.chc (h : FMem o q w b m sv rv) : w.cell? ⟨b, 0, none⟩ = some (.int .i64 m.set.ch) := h.blk.cell rfl
theorem FMem.dync (h : FMem o q w b m sv rv) : w.cell? ⟨b, 1, none⟩ = some (.bool m.set.dyn) := h.blk.cell rfl
theorem FMem.blc (h : FMem o q w b m sv rv) : w.cell? ⟨b, 6, none⟩ = some (.int .i64 m.set.bl) := h.blk.cell rfl
theorem FMem.frozen (h : FMem o q w b m sv rv) (k : Nat) : w.frozen? ⟨b, k, none⟩ = false := h.blk.frozen k

theorem fcells_slot (m : PM) (sv : Nat → Value) (rv : Value) (k : Nat) (hk : k < 6) (s : PSlot) :
    (((((((fcells m sv rv).set (21 + k * 7) (.int .i64 s.st)).set (21 + k * 7 + 1) (.bool s.old)).set (21 + k * 7 + 2) (.int .i64 s.served)).set (21 + k * 7 + 3) (.int .i64 s.since)).set (21 + k * 7 + 4) (.int .i64 s.conn)).set (21 + k * 7 + 5) (.int .i64 s.id)).set (21 + k * 7 + 6) (.string s.job) =
      fcells { m with slot := upd m.slot k s } sv rv := by
  rcases k with _ | _ | _ | _ | _ | _ | k <;> first | rfl | omega
end
end Go.Proofs.YtlafkpaljibonaaGreat
