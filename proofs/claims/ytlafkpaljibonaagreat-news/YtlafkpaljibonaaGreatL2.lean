import Derived.Test.YtlafkpaljibonaaGreatL1
import Derived.Laws.StructEq
namespace Go.Proofs.YtlafkpaljibonaaGreat
open Go.RowKit

/-- What belongs to others than p + 1, p + 2, p + 3 is as it was. -/
structure FrX (p : Nat) (o : Nat → Tag) (w : World) (o' : Nat → Tag) (w' : World) : Prop where
  os : w'.os = w.os
  tape : w'.tape = w.tape
  output : w'.output = w.output
  size : w.heap.size ≤ w'.heap.size
  clean : Clean o' w'
  tags : ∀ g, g < w.heap.size → o' g = o g
  block : ∀ g, g < w.heap.size → (o g).1 ≤ p ∨ p + 3 < (o g).1 → w'.heap[g]? = w.heap[g]?

theorem FrX.trans {p : Nat} {o o1 o2 : Nat → Tag} {w w1 w2 : World} (h : FrX p o w o1 w1) (k : FrX p o1 w1 o2 w2) : FrX p o w o2 w2 :=
  ⟨k.os.trans h.os, k.tape.trans h.tape, k.output.trans h.output, Nat.le_trans h.size k.size, k.clean,
   fun g hg => (k.tags g (Nat.lt_of_lt_of_le hg h.size)).trans (h.tags g hg),
   fun g hg hq => (k.block g (Nat.lt_of_lt_of_le hg h.size) (by rw [h.tags g hg]; exact hq)).trans (h.block g hg hq)⟩

theorem Fr.toX {p q : Nat} {o o' : Nat → Tag} {w w' : World} (h : Fr q o w o' w') (hq : p < q ∧ q ≤ p + 3) : FrX p o w o' w' :=
  ⟨h.os, h.tape, h.output, h.size, h.clean, h.tags, fun g hg h0 => h.block g hg (by omega)⟩

theorem FrX.of_below {p : Nat} {o : Nat → Tag} {w w' : World} (hc : Clean o w) (h : Below w.heap.size w w') : FrX p o w o w' := (Fr.of_below (q := p + 1) hc h).toX (by omega)

theorem FrX.below {p : Nat} {o o1 : Nat → Tag} {w w1 w2 : World} (h : FrX p o w o1 w1) (k : Below w1.heap.size w1 w2) : FrX p o w o1 w2 := h.trans (FrX.of_below h.clean k)

structure GMem (p : Nat) (o : Nat → Tag) (w : World) (gb fb wb : Nat) (ls ts : List Value) (lv tv : Value) : Prop where
  blk : Blk w gb 45 [.pointer (some ⟨fb, 0, none⟩), .pointer (some ⟨wb, 0, none⟩), lv, tv]
  tag : o gb = (p + 3, 1)
  lists : Row o w (p + 3, 2) 86 1 lv ls.length ls
  tails : Row o w (p + 3, 3) 86 1 tv ts.length ts
  len : ts.length = 3 * ls.length
  ml : ∀ k (hk : k < ls.length), ∃ n, Row o w (p + 3, 9) 89 2 ls[k] n (ms (-1 - (k : Int)) n)
  mt : ∀ k (hk : k < ts.length), ∃ n, Row o w (p + 3, 9) 89 2 ts[k] n (ms (-1 - ((k / 3 : Nat) : Int)) n)

section
variable {p : Nat} {o o' : Nat → Tag} {w w' : World} {gb fb wb : Nat} {ls ts : List Value} {lv tv : Value} {q : Nat}

theorem GMem.fr (h : GMem p o w gb fb wb ls ts lv tv) (hf : Fr q o w o' w') (hq : p + 3 ≠ q) : GMem p o' w' gb fb wb ls ts lv tv :=
  ⟨h.blk.keep (hf.block gb h.blk.lt (by rw [h.tag]; exact hq)), (hf.tags gb h.blk.lt).trans h.tag, h.lists.fr hf hq, h.tails.fr hf hq, h.len,
   fun k hk => by obtain ⟨n, hn⟩ := h.ml k hk; exact ⟨n, hn.fr hf hq⟩, fun k hk => by obtain ⟨n, hn⟩ := h.mt k hk; exact ⟨n, hn.fr hf hq⟩⟩

theorem GMem.below (h : GMem p o w gb fb wb ls ts lv tv) (hf : Below w.heap.size w w') : GMem p o w' gb fb wb ls ts lv tv :=
  ⟨h.blk.below hf, h.tag, h.lists.below hf, h.tails.below hf, h.len,
   fun k hk => by obtain ⟨n, hn⟩ := h.ml k hk; exact ⟨n, hn.below hf⟩, fun k hk => by obtain ⟨n, hn⟩ := h.mt k hk; exact ⟨n, hn.below hf⟩⟩

theorem GMem.fc (h : GMem p o w gb fb wb ls ts lv tv) : w.cell? ⟨gb, 0, none⟩ = some (.pointer (some ⟨fb, 0, none⟩)) := h.blk.cell rfl
theorem GMem.wc (h : GMem p o w gb fb wb ls ts lv tv) : w.cell? ⟨gb, 1, none⟩ = some (.pointer (some ⟨wb, 0, none⟩)) := h.blk.cell rfl
theorem GMem.lc (h : GMem p o w gb fb wb ls ts lv tv) : w.cell? ⟨gb, 2, none⟩ = some lv := h.blk.cell rfl
theorem GMem.tc (h : GMem p o w gb fb wb ls ts lv tv) : w.cell? ⟨gb, 3, none⟩ = some tv := h.blk.cell rfl

/-- All three: the game, the program's foreman, the document's. -/
structure Trio (p : Nat) (o : Nat → Tag) (w : World) (gb fb wb : Nat) (ls ts : List Value) (lv tv : Value) (m : PM) (sv : Nat → Value) (rv : Value) (M : RM) (nv : Nat → Value) (kv qv : Value) : Prop where
  g : GMem p o w gb fb wb ls ts lv tv
  f : FMem o (p + 1) w fb m sv rv
  r : RMem o (p + 2) w wb M nv kv qv

variable {m : PM} {sv : Nat → Value} {rv : Value} {M : RM} {nv : Nat → Value} {kv qv : Value}

theorem Trio.below (h : Trio p o w gb fb wb ls ts lv tv m sv rv M nv kv qv) (hf : Below w.heap.size w w') : Trio p o w' gb fb wb ls ts lv tv m sv rv M nv kv qv :=
  ⟨h.g.below hf, h.f.below hf, h.r.below hf⟩

set_option maxRecDepth 100000 in
set_option maxHeartbeats 1000000 in
theorem line_any (h : Trio p o w gb fb wb ls ts lv tv m sv rv M nv kv qv) (n : Int) (h1 : m.open_ n = M.open_ n) (h2 : m.sent_ n = M.sent_ n) (hmax : ∀ k, k < 4 → (M.line k).sent.length ≤ 1000000000000) :
    Calls Tryz.prog 17 #[.pointer (some ⟨gb, 0, none⟩), .int .i64 n] w fun r w' => r = .returned (.bool true) ∧ Below w.heap.size w w' := by
  have c0 := h.g.fc
  have c1 := h.g.wc
  have hgl := h.g.blk.lt
  have k1 : Hid (Calls Tryz.prog 33 #[.pointer (some ⟨fb, 0, none⟩), .int .i64 n] w fun r w' => r = .returned (.bool (m.open_ n)) ∧ w' = w) := open_any h.f n
  have k2 : Hid (Calls Tryz.prog 34 #[.pointer (some ⟨wb, 0, none⟩), .int .i64 n] w fun r w' => r = .returned (.bool (m.open_ n)) ∧ w' = w) := h1 ▸ rOpen_any h.r n
  have k3 : Hid (Calls Tryz.prog 35 #[.pointer (some ⟨fb, 0, none⟩), .int .i64 n] w fun r w' => r = .returned (.string (m.sent_ n)) ∧ w' = w) := sent_any h.f n
  have k4 : Hid (Calls Tryz.prog 36 #[.pointer (some ⟨wb, 0, none⟩), .int .i64 n] w fun r w' => r = .returned (.string (m.sent_ n)) ∧ Below w.heap.size w w') := h2 ▸ rSent_any h.r n hmax
  clear h h1 h2 hmax
  generalize m.open_ n = P at *
  generalize m.sent_ n = S at *
  go_enter Tryz.func17, Tryz.ntmps17
  go_wp2_with fail
  refine k1.out.mono ?_
  rintro e w1 ⟨rfl, rfl⟩
  go_wp2_with fail
  refine k2.out.mono ?_
  rintro e w2 ⟨rfl, rfl⟩
  go_wp2_with fail
  refine k3.out.mono ?_
  rintro e w3 ⟨rfl, rfl⟩
  go_wp2_with fail
  refine k4.out.mono ?_
  rintro e w4 ⟨rfl, hb⟩
  go_wp2
  go_ret
  exact ⟨by simp, hb⟩

set_option maxRecDepth 100000 in
set_option maxHeartbeats 1000000 in
theorem gslot_any (h : Trio p o w gb fb wb ls ts lv tv m sv rv M nv kv qv) (hwf : M.wf) (hlv : ∀ k, k < 6 → M.live k = false) (n : Int) (h1 : M.slotV n = m.slotV n) (h2 : M.jobV n = m.jobV n) (h3 : M.stE n 3 = m.jobE n)
    (hag : ∃ st old served since conn id, m.slotV n = .agg #[.int .i64 st, .bool old, .int .i64 served, .int .i64 since, .int .i64 conn, .int .i64 id]) :
    Calls Tryz.prog 18 #[.pointer (some ⟨gb, 0, none⟩), .int .i64 n] w fun r w' => r = .returned (.bool true) ∧ Below w.heap.size w w' := by
  obtain ⟨st, old, served, since, conn, id, hV⟩ := hag
  have k1 : Hid (∀ w', FMem o (p + 1) w' fb m sv rv → Calls Tryz.prog 37 #[.pointer (some ⟨fb, 0, none⟩), .int .i64 n] w' fun r w'' => r = .returned (.tuple #[m.slotV n, .int .i64 (slotE n)]) ∧ Below w'.heap.size w' w'') := fun w' h' => slot_any h' n
  have k2 : Hid (∀ w', RMem o (p + 2) w' wb M nv kv qv → Calls Tryz.prog 38 #[.pointer (some ⟨wb, 0, none⟩), .int .i64 n] w' fun r w'' => r = .returned (.tuple #[m.slotV n, .int .i64 (slotE n)]) ∧ Below w'.heap.size w' w'') := fun w' h' => h1 ▸ rSlot_any h' hwf hlv n
  have k3 : Hid (∀ w', FMem o (p + 1) w' fb m sv rv → Calls Tryz.prog 39 #[.pointer (some ⟨fb, 0, none⟩), .int .i64 n] w' fun r w'' => r = .returned (.tuple #[.string (m.jobV n), .int .i64 (m.jobE n)]) ∧ w'' = w') := fun w' h' => job_any h' n
  have k4 : Hid (∀ w', RMem o (p + 2) w' wb M nv kv qv → Calls Tryz.prog 40 #[.pointer (some ⟨wb, 0, none⟩), .int .i64 n] w' fun r w'' => r = .returned (.tuple #[.string (m.jobV n), .int .i64 (m.jobE n)]) ∧ Below w'.heap.size w' w'') := fun w' h' => by have := rJob_any h' hwf n; rw [h2, h3] at this; exact this
  clear h1 h2 h3
  rw [hV] at k1 k2
  clear hV
  generalize m.jobV n = J at *
  generalize m.jobE n = E at *
  generalize slotE n = SE at *
  have c0 := h.g.fc
  have c1 := h.g.wc
  go_enter Tryz.func18, Tryz.ntmps18
  go_wp2_with fail
  refine (k1.out _ h.f).mono ?_
  rintro e w1 ⟨rfl, hb1⟩
  have h1 := h.below hb1
  clear c0 c1
  have c1 := fun ob => (h1.below ((Below.refl _ _).alloc (Nat.le_refl _) ob)).g.wc
  go_wp2_with fail
  have hA := Blk.made w1 59 [.int .i64 st, .bool old, .int .i64 served, .int .i64 since, .int .i64 conn, .int .i64 id]
  have hbA : Below w1.heap.size w1 (w1.alloc (.cells #[.int .i64 st, .bool old, .int .i64 served, .int .i64 since, .int .i64 conn, .int .i64 id] 59)) := (Below.refl _ _).alloc (Nat.le_refl _) _
  have h2 := h1.below hbA
  refine (k2.out _ h2.r).mono ?_
  rintro e w2 ⟨rfl, hb2⟩
  have hA2 := hA.below hb2
  have h3 := h2.below hb2
  have hbw : Below w.heap.size w w2 := hb1.trans ((hbA.trans (hb2.mono (by simp))).mono hb1.size)
  clear c1 hA hbA hb1 hb2 h1 h2
  have a0 := fun ob => (hA2.below ((Below.refl _ _).alloc (Nat.le_refl _) ob)).cell (k := 0) (u := .int .i64 st) rfl
  have a1 := fun ob => (hA2.below ((Below.refl _ _).alloc (Nat.le_refl _) ob)).cell (k := 1) (u := .bool old) rfl
  have a2 := fun ob => (hA2.below ((Below.refl _ _).alloc (Nat.le_refl _) ob)).cell (k := 2) (u := .int .i64 served) rfl
  have a3 := fun ob => (hA2.below ((Below.refl _ _).alloc (Nat.le_refl _) ob)).cell (k := 3) (u := .int .i64 since) rfl
  have a4 := fun ob => (hA2.below ((Below.refl _ _).alloc (Nat.le_refl _) ob)).cell (k := 4) (u := .int .i64 conn) rfl
  have a5 := fun ob => (hA2.below ((Below.refl _ _).alloc (Nat.le_refl _) ob)).cell (k := 5) (u := .int .i64 id) rfl
  have c0 := fun ob => (h3.below ((Below.refl _ _).alloc (Nat.le_refl _) ob)).g.fc
  have c1 := fun ob => (h3.below ((Below.refl _ _).alloc (Nat.le_refl _) ob)).g.wc
  clear hA2
  go_wp2_with fail
  refine (num_any _ _).mono ?_
  rintro e w3 ⟨rfl, rfl⟩
  go_wp2_with fail
  have h4 := h3.below (w' := w2.alloc (.cells #[.int .i64 st, .bool old, .int .i64 served, .int .i64 since, .int .i64 conn, .int .i64 id] 59)) ((Below.refl _ _).alloc (Nat.le_refl _) _)
  refine (k3.out _ h4.f).mono ?_
  rintro e w4 ⟨rfl, rfl⟩
  go_wp2_with fail
  refine (k4.out _ h4.r).mono ?_
  rintro e w5 ⟨rfl, hb5⟩
  clear a0 a1 a2 a3 a4 a5 c0 c1
  go_wp2_with fail
  refine (num_any _ _).mono ?_
  rintro e w6 ⟨rfl, rfl⟩
  go_wp2
  go_ret
  refine ⟨by simp, ?_⟩
  exact hbw.trans ((((Below.refl w2.heap.size w2).alloc (Nat.le_refl _) _).trans (hb5.mono (by simp))).mono hbw.size)

end
end Go.Proofs.YtlafkpaljibonaaGreat
