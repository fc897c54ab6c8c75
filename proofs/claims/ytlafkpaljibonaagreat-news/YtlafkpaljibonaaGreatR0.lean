import Derived.Test.YtlafkpaljibonaaGreatGen0
import Derived.Test.YtlafkpaljibonaaGreatSpec
namespace Go.Proofs.YtlafkpaljibonaaGreat
open Go.RowKit

/-- The document's state, as a plain value. -/
structure RLine where
  op : Bool
  come : ByteArray
  took : Nat
  sent : List Rec

structure RSlot where
  st : Int
  served : Int
  since : Int
  old : Bool
  key : Nat

structure RKey where
  conn : Int
  id : Int
  body : ByteArray
  is : Int

structure RM where
  set : Cfg
  time : Int
  line : Nat → RLine
  slot : Nat → RSlot
  keys : List RKey
  queue : List Nat

def RLine.cells (c : RLine) (v : Value) : List Value := [.bool c.op, .string c.come, .int .i64 c.took, v]
def RSlot.cells (s : RSlot) : List Value := [.int .i64 s.st, .int .i64 s.served, .int .i64 s.since, .bool s.old, .int .i64 s.key]
def RKey.cells (r : RKey) : List Value := [.int .i64 r.conn, .int .i64 r.id, .string r.body, .int .i64 r.is]
def rkeyCells (l : List RKey) : List Value := l.flatMap RKey.cells
def numCells (l : List Nat) : List Value := l.map fun (n : Nat) => Value.int .i64 (n : Int)

def wcells (m : RM) (lv : Nat → Value) (kv qv : Value) : List Value :=
  m.set.cells ++ .int .i64 m.time :: ((m.line 0).cells (lv 0) ++ ((m.line 1).cells (lv 1) ++ ((m.line 2).cells (lv 2) ++ ((m.line 3).cells (lv 3) ++
    ((m.slot 0).cells ++ ((m.slot 1).cells ++ ((m.slot 2).cells ++ ((m.slot 3).cells ++ ((m.slot 4).cells ++ ((m.slot 5).cells ++ [kv, qv]))))))))))

structure RMem (o : Nat → Tag) (q : Nat) (w : World) (b : Nat) (m : RM) (lv : Nat → Value) (kv qv : Value) : Prop where
  clean : Clean o w
  tag : o b = (q, 1)
  blk : Blk w b 76 (wcells m lv kv qv)
  sent : ∀ k, k < 4 → Row o w (q, 2 + k) 102 3 (lv k) (m.line k).sent.length (rowOf (m.line k).sent)
  keys : Row o w (q, 6) 99 4 kv m.keys.length (rkeyCells m.keys)
  queue : Row o w (q, 7) 3 1 qv m.queue.length (numCells m.queue)

section
variable {o o' : Nat → Tag} {q q' : Nat} {w w' : World} {b : Nat} {m m' : RM} {lv : Nat → Value} {kv qv : Value}

theorem RMem.fr (h : RMem o q w b m lv kv qv) (hf : Fr q' o w o' w') (hq : q ≠ q') : RMem o' q w' b m lv kv qv :=
  ⟨hf.clean, (hf.tags b h.blk.lt).trans h.tag, h.blk.keep (hf.block b h.blk.lt (by rw [h.tag]; exact hq)),
   fun k hk => (h.sent k hk).fr hf hq, h.keys.fr hf hq, h.queue.fr hf hq⟩

theorem RMem.below (h : RMem o q w b m lv kv qv) (hf : Below w.heap.size w w') : RMem o q w' b m lv kv qv :=
  ⟨h.clean.le hf.size, h.tag, h.blk.below hf, fun k hk => (h.sent k hk).below hf, h.keys.below hf, h.queue.below hf⟩

theorem RMem.alloc (h : RMem o q w b m lv kv qv) (ob : Obj) : RMem o q (w.alloc ob) b m lv kv qv := h.below ((Below.refl _ _).alloc (Nat.le_refl _) ob)
theorem RMem.drew (h : RMem o q w b m lv kv qv) : RMem o q w.drew b m lv kv qv := h.below (Below.refl _ _).drew

/-- The struct itself was written. -/
theorem RMem.put (h : RMem o q w b m lv kv qv) (hb : Blk w' b 76 (wcells m' lv kv qv)) (hs : w'.heap.size = w.heap.size) (ho : ∀ g, g ≠ b → w'.heap[g]? = w.heap[g]?)
    (h1 : ∀ k, k < 4 → (m'.line k).sent = (m.line k).sent) (h2 : m'.keys = m.keys) (h3 : m'.queue = m.queue) : RMem o q w' b m' lv kv qv :=
  ⟨h.clean.le (Nat.le_of_eq hs.symm), h.tag, hb,
   fun k hk => by rw [h1 k hk]; exact (h.sent k hk).keep (fun _ _ => rfl) fun g _ hg => ho g fun e => by rw [e, h.tag] at hg; simp at hg; omega,
   by rw [h2]; exact h.keys.keep (fun _ _ => rfl) fun g _ hg => ho g fun e => by rw [e, h.tag] at hg; simp at hg,
   by rw [h3]; exact h.queue.keep (fun _ _ => rfl) fun g _ hg => ho g fun e => by rw [e, h.tag] at hg; simp at hg⟩

theorem RMem.fr_put (h : RMem o q w b m lv kv qv) (h' : RMem o q w' b m' lv kv qv) (h1 : w'.os = w.os) (h2 : w'.tape = w.tape) (h3 : w'.output = w.output) (h4 : w'.heap.size = w.heap.size)
    (hb : ∀ g, g ≠ b → w'.heap[g]? = w.heap[g]?) : Fr q o w o w' :=
  ⟨h1, h2, h3, Nat.le_of_eq h4.symm, h'.clean, fun _ _ => rfl, fun g _ hg => hb g (by rintro rfl; rw [h.tag] at hg; exact hg rfl)⟩

theorem RMem.linec (h : RMem o q w b m lv kv qv) {k : Nat} (hk : k < 4) :
    w.cell? ⟨b, 8 + k * 4, none⟩ = some (.bool (m.line k).op) ∧ w.cell? ⟨b, 8 + k * 4 + 1, none⟩ = some (.string (m.line k).come) ∧ w.cell? ⟨b, 8 + k * 4 + 2, none⟩ = some (.int .i64 (m.line k).took) ∧ w.cell? ⟨b, 8 + k * 4 + 3, none⟩ = some (lv k) := by
  refine ⟨?_, ?_, ?_, ?_⟩ <;> (apply h.blk.cell; rcases k with _ | _ | _ | _ | k <;> first | rfl | omega)
theorem RMem.slotc (h : RMem o q w b m lv kv qv) {k : Nat} (hk : k < 6) :
    w.cell? ⟨b, 24 + k * 5, none⟩ = some (.int .i64 (m.slot k).st) ∧ w.cell? ⟨b, 24 + k * 5 + 1, none⟩ = some (.int .i64 (m.slot k).served) ∧ w.cell? ⟨b, 24 + k * 5 + 2, none⟩ = some (.int .i64 (m.slot k).since) ∧
    w.cell? ⟨b, 24 + k * 5 + 3, none⟩ = some (.bool (m.slot k).old) ∧ w.cell? ⟨b, 24 + k * 5 + 4, none⟩ = some (.int .i64 (m.slot k).key) := by
  refine ⟨?_, ?_, ?_, ?_, ?_⟩ <;> (apply h.blk.cell; rcases k with _ | _ | _ | _ | _ | _ | k <;> first | rfl | omega)
theorem RMem.timec (h : RMem o q w b m lv kv qv) : w.cell? ⟨b, 7, none⟩ = some (.int .i64 m.time) := h.blk.cell rfl
theorem RMem.keysv (h : RMem o q w b m lv kv qv) : w.cell? ⟨b, 54, none⟩ = some kv := h.blk.cell rfl
theorem RMem.queuev (h : RMem o q w b m lv kv qv) : w.cell? ⟨b, 55, none⟩ = some qv := h.blk.cell rfl
theorem RMem.chc (h : RMem o q w b m lv kv qv) : w.cell? ⟨b, 0, none⟩ = some (.int .i64 m.set.ch) := h.blk.cell rfl
theorem RMem.dync (h : RMem o q w b m lv kv qv) : w.cell? ⟨b, 1, none⟩ = some (.bool m.set.dyn) := h.blk.cell rfl
theorem RMem.blc (h : RMem o q w b m lv kv qv) : w.cell? ⟨b, 6, none⟩ = some (.int .i64 m.set.bl) := h.blk.cell rfl
theorem RMem.frozen (h : RMem o q w b m lv kv qv) (k : Nat) : w.frozen? ⟨b, k, none⟩ = false := h.blk.frozen k

theorem wcells_slot (m : RM) (lv : Nat → Value) (kv qv : Value) (k : Nat) (hk : k < 6) (s : RSlot) :
    (((((wcells m lv kv qv).set (24 + k * 5) (.int .i64 s.st)).set (24 + k * 5 + 1) (.int .i64 s.served)).set (24 + k * 5 + 2) (.int .i64 s.since)).set (24 + k * 5 + 3) (.bool s.old)).set (24 + k * 5 + 4) (.int .i64 s.key) =
      wcells { m with slot := upd m.slot k s } lv kv qv := by
  rcases k with _ | _ | _ | _ | _ | _ | k <;> first | rfl | omega

/-- A slot's five cells are written. -/
theorem RMem.putSlot (h : RMem o q w b m lv kv qv) {k : Nat} (hk : k < 6) (s : RSlot) :
    let w' := ((((w.setCell ⟨b, 24 + k * 5, none⟩ (.int .i64 s.st)).setCell ⟨b, 24 + k * 5 + 1, none⟩ (.int .i64 s.served)).setCell ⟨b, 24 + k * 5 + 2, none⟩ (.int .i64 s.since)).setCell ⟨b, 24 + k * 5 + 3, none⟩ (.bool s.old)).setCell ⟨b, 24 + k * 5 + 4, none⟩ (.int .i64 s.key)
    RMem o q w' b { m with slot := upd m.slot k s } lv kv qv ∧ Fr q o w o w' := by
  intro w'
  have hoth : ∀ g, g ≠ b → w'.heap[g]? = w.heap[g]? := by
    intro g hg
    simp only [w']
    repeat rw [Below.heap_setCell _ _ _ g (by simpa using hg)]
  have hm : RMem o q w' b { m with slot := upd m.slot k s } lv kv qv := by
    refine h.put ?_ (by simp [w', World.setCell]) hoth (fun _ _ => rfl) rfl rfl
    rw [← wcells_slot m lv kv qv k hk s]
    exact ((((h.blk.set _ _).set _ _).set _ _).set _ _).set _ _
  exact ⟨hm, h.fr_put hm (by simp [w', World.setCell]) (by simp [w', World.setCell]) (by simp [w', World.setCell]) (by simp [w', World.setCell]) hoth⟩

theorem rkeyCells_get (l : List RKey) (k : Nat) (hk : k < l.length) : (rkeyCells l)[k * 4]? = some (.int .i64 l[k].conn) ∧ (rkeyCells l)[k * 4 + 1]? = some (.int .i64 l[k].id) ∧ (rkeyCells l)[k * 4 + 2]? = some (.string l[k].body) ∧ (rkeyCells l)[k * 4 + 3]? = some (.int .i64 l[k].is) := by
  induction l generalizing k with
  | nil => simp at hk
  | cons r l ih =>
    cases k with
    | zero => simp [rkeyCells, RKey.cells]
    | succ k =>
      have := ih k (by simpa using hk)
      have e : rkeyCells (r :: l) = .int .i64 r.conn :: .int .i64 r.id :: .string r.body :: .int .i64 r.is :: rkeyCells l := by simp [rkeyCells, RKey.cells]
      rw [e, show (k + 1) * 4 = k * 4 + 1 + 1 + 1 + 1 from by omega]
      simpa using this

/-- The list of keys as a value, its rows by their numbers. -/
theorem RMem.klist (h : RMem o q w b m lv kv qv) : ∃ ao c, kv = .slice ao m.keys.length c ∧ (m.keys.length : Int) ≤ 9223372036854775807 ∧
    ∀ k (hk : k < m.keys.length), ∃ g, ao = some ⟨g, 0, none⟩ ∧ g < w.heap.size ∧ g ≠ b ∧ o g = (q, 6) ∧ (∀ j, w.frozen? ⟨g, j, none⟩ = false) ∧
    w.cell? ⟨g, k * 4, none⟩ = some (.int .i64 m.keys[k].conn) ∧ w.cell? ⟨g, k * 4 + 1, none⟩ = some (.int .i64 m.keys[k].id) ∧ w.cell? ⟨g, k * 4 + 2, none⟩ = some (.string m.keys[k].body) ∧ w.cell? ⟨g, k * 4 + 3, none⟩ = some (.int .i64 m.keys[k].is) := by
  obtain ⟨ao, c, hv, hn, hg0⟩ := h.keys.form
  refine ⟨ao, c, hv, hn, fun k hk => ?_⟩
  obtain ⟨g, rfl, ho, hlt⟩ := hg0 (by omega)
  have h1 := h.keys.1
  rw [hv] at h1
  have := rkeyCells_get m.keys k hk
  refine ⟨g, rfl, hlt, ?_, ho, fun j => h1.frozenAt j, ?_⟩
  · rintro rfl; rw [h.tag] at ho; simp at ho
  · rw [h1.cellAt _ (by omega), h1.cellAt _ (by omega), h1.cellAt _ (by omega), h1.cellAt _ (by omega)]
    exact this

theorem RMem.qlist (h : RMem o q w b m lv kv qv) : ∃ ao c, qv = .slice ao m.queue.length c ∧ (m.queue.length : Int) ≤ 9223372036854775807 ∧
    ∀ k (hk : k < m.queue.length), ∃ g, ao = some ⟨g, 0, none⟩ ∧ g < w.heap.size ∧ g ≠ b ∧ o g = (q, 7) ∧ w.cell? ⟨g, k, none⟩ = some (.int .i64 m.queue[k]) := by
  obtain ⟨ao, c, hv, hn, hg0⟩ := h.queue.form
  refine ⟨ao, c, hv, hn, fun k hk => ?_⟩
  obtain ⟨g, rfl, ho, hlt⟩ := hg0 (by omega)
  have h1 := h.queue.1
  rw [hv] at h1
  refine ⟨g, rfl, hlt, ?_, ho, ?_⟩
  · rintro rfl; rw [h.tag] at ho; simp at ho
  · rw [h1.cellAt _ (by omega)]
    simp [numCells, List.getElem?_map, List.getElem?_eq_getElem hk]
end
end Go.Proofs.YtlafkpaljibonaaGreat
