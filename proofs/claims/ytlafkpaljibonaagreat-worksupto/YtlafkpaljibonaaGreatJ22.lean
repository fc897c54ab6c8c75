import Derived.Test.YtlafkpaljibonaaGreatJ21
namespace Go.Proofs.YtlafkpaljibonaaGreat
open Go.RowKit

/-- What is nobody's is as it was. -/
structure FrB (o : Nat → Tag) (w : World) (o' : Nat → Tag) (w' : World) : Prop where
  os : w'.os = w.os
  tape : w'.tape = w.tape
  output : w'.output = w.output
  size : w.heap.size ≤ w'.heap.size
  clean : Clean o' w'
  tags : ∀ g, g < w.heap.size → o' g = o g
  block : ∀ g, g < w.heap.size → (o g).1 = 0 → w'.heap[g]? = w.heap[g]?

section
variable {p p' q B N : Nat} {o o' o1 o2 : Nat → Tag} {w w' w1 w2 : World} {b gb fb wb : Nat} {ls ts : List Value} {lv tv : Value} {m : PM} {sv : Nat → Value} {rv : Value} {M : RM} {nv : Nat → Value} {kv qv : Value}

theorem FrB.trans (h : FrB o w o1 w1) (k : FrB o1 w1 o2 w2) : FrB o w o2 w2 :=
  ⟨k.os.trans h.os, k.tape.trans h.tape, k.output.trans h.output, Nat.le_trans h.size k.size, k.clean,
   fun g hg => (k.tags g (Nat.lt_of_lt_of_le hg h.size)).trans (h.tags g hg),
   fun g hg hq => (k.block g (Nat.lt_of_lt_of_le hg h.size) (by rw [h.tags g hg]; exact hq)).trans (h.block g hg hq)⟩

theorem FrX.toB (h : FrX p o w o' w') : FrB o w o' w' :=
  ⟨h.os, h.tape, h.output, h.size, h.clean, h.tags, fun g hg h0 => h.block g hg (.inl (by omega))⟩

theorem FrB.below (h : FrB o w o1 w1) (k : Below w1.heap.size w1 w2) : FrB o w o1 w2 := h.trans (FrX.of_below (p := 0) h.clean k).toB

theorem FMem.frx (h : FMem o q w b m sv rv) (hf : FrX p o w o' w') (hq : q ≤ p ∨ p + 3 < q) : FMem o' q w' b m sv rv :=
  ⟨hf.clean, (hf.tags b h.blk.lt).trans h.tag, h.blk.keep (hf.block b h.blk.lt (by rw [h.tag]; exact hq)),
   fun k hk => (h.sent k hk).keep hf.tags (fun g hg ho => hf.block g hg (by rw [ho]; exact hq)), h.reqs.keep hf.tags (fun g hg ho => hf.block g hg (by rw [ho]; exact hq)), h.few⟩

theorem RMem.frx (h : RMem o q w b M nv kv qv) (hf : FrX p o w o' w') (hq : q ≤ p ∨ p + 3 < q) : RMem o' q w' b M nv kv qv :=
  ⟨hf.clean, (hf.tags b h.blk.lt).trans h.tag, h.blk.keep (hf.block b h.blk.lt (by rw [h.tag]; exact hq)),
   fun k hk => (h.sent k hk).keep hf.tags (fun g hg ho => hf.block g hg (by rw [ho]; exact hq)), h.keys.keep hf.tags (fun g hg ho => hf.block g hg (by rw [ho]; exact hq)), h.queue.keep hf.tags (fun g hg ho => hf.block g hg (by rw [ho]; exact hq))⟩

theorem GMem.frx (h : GMem p' o w gb fb wb ls ts lv tv) (hf : FrX p o w o' w') (hq : p' + 3 ≤ p ∨ p + 3 < p' + 3) : GMem p' o' w' gb fb wb ls ts lv tv :=
  ⟨h.blk.keep (hf.block gb h.blk.lt (by rw [h.tag]; exact hq)), (hf.tags gb h.blk.lt).trans h.tag, h.lists.keep hf.tags (fun g hg ho => hf.block g hg (by rw [ho]; exact hq)), h.tails.keep hf.tags (fun g hg ho => hf.block g hg (by rw [ho]; exact hq)), h.len,
   fun k hk => by obtain ⟨n, hn⟩ := h.ml k hk; exact ⟨n, hn.keep hf.tags (fun g hg ho => hf.block g hg (by rw [ho]; exact hq))⟩, fun k hk => by obtain ⟨n, hn⟩ := h.mt k hk; exact ⟨n, hn.keep hf.tags (fun g hg ho => hf.block g hg (by rw [ho]; exact hq))⟩⟩

theorem Trio.frx (h : Trio p' o w gb fb wb ls ts lv tv m sv rv M nv kv qv) (hf : FrX p o w o' w') (hq : p' + 3 ≤ p ∨ p + 3 ≤ p') : Trio p' o' w' gb fb wb ls ts lv tv m sv rv M nv kv qv :=
  ⟨h.g.frx hf (by omega), h.f.frx hf (by omega), h.r.frx hf (by omega)⟩

/-- One game of the two. -/
def Half (p : Nat) (o : Nat → Tag) (w : World) (gb B N : Nat) : Prop :=
  ∃ fb wb ls ts lv tv m sv rv M nv kv qv, Trio p o w gb fb wb ls ts lv tv m sv rv M nv kv qv ∧ Ok m M B ∧ ls.length ≤ N
def Side (p : Nat) (o : Nat → Tag) (w : World) (v : Value) (B N : Nat) : Prop :=
  v = .pointer none ∨ ∃ gb, v = .pointer (some ⟨gb, 0, none⟩) ∧ Half p o w gb B N

theorem Half.frx (h : Half p' o w gb B N) (hf : FrX p o w o' w') (hq : p' + 3 ≤ p ∨ p + 3 ≤ p') : Half p' o' w' gb B N := by
  obtain ⟨fb, wb, ls, ts, lv, tv, m, sv, rv, M, nv, kv, qv, h1, h2, h3⟩ := h
  exact ⟨fb, wb, ls, ts, lv, tv, m, sv, rv, M, nv, kv, qv, h1.frx hf hq, h2, h3⟩
theorem Half.below (h : Half p' o w gb B N) (hf : Below w.heap.size w w') : Half p' o w' gb B N := by
  obtain ⟨fb, wb, ls, ts, lv, tv, m, sv, rv, M, nv, kv, qv, h1, h2, h3⟩ := h
  exact ⟨fb, wb, ls, ts, lv, tv, m, sv, rv, M, nv, kv, qv, h1.below hf, h2, h3⟩
theorem Half.mono {B' N' : Nat} (h : Half p' o w gb B N) (hb : B ≤ B') (hn : N ≤ N') : Half p' o w gb B' N' := by
  obtain ⟨fb, wb, ls, ts, lv, tv, m, sv, rv, M, nv, kv, qv, h1, h2, h3⟩ := h
  exact ⟨fb, wb, ls, ts, lv, tv, m, sv, rv, M, nv, kv, qv, h1, h2.mono hb, Nat.le_trans h3 hn⟩
theorem Side.frx {v : Value} (h : Side p' o w v B N) (hf : FrX p o w o' w') (hq : p' + 3 ≤ p ∨ p + 3 ≤ p') : Side p' o' w' v B N := by
  rcases h with e | ⟨gb, e, h⟩
  · exact .inl e
  · exact .inr ⟨gb, e, h.frx hf hq⟩
theorem Side.below {v : Value} (h : Side p' o w v B N) (hf : Below w.heap.size w w') : Side p' o w' v B N := by
  rcases h with e | ⟨gb, e, h⟩
  · exact .inl e
  · exact .inr ⟨gb, e, h.below hf⟩
theorem Side.mono {v : Value} {B' N' : Nat} (h : Side p' o w v B N) (hb : B ≤ B') (hn : N ≤ N') : Side p' o w v B' N' := by
  rcases h with e | ⟨gb, e, h⟩
  · exact .inl e
  · exact .inr ⟨gb, e, h.mono hb hn⟩

theorem half_looks (h : Half p o w gb B N) (hB : B ≤ 8000000) (hN : N ≤ 8000000) :
    Calls Tryz.prog 11 #[.pointer (some ⟨gb, 0, none⟩)] w fun r w' => r = .returned (.bool true) ∧ ∃ o', Half p o' w' gb B (N + 1) ∧ FrX p o w o' w' := by
  obtain ⟨fb, wb, ls, ts, lv, tv, m, sv, rv, M, nv, kv, qv, h1, h2, h3⟩ := h
  refine (looks_all h1 h2.good.wf h2.same (fun c _ => by have := h2.good.sent c; omega) (by have := h2.small.req; omega) (by have := h2.good.queue; omega) (by omega)).mono ?_
  rintro r w' ⟨e, o', ls', ts', lv', tv', t', fr', hl⟩
  exact ⟨e, o', ⟨fb, wb, ls', ts', lv', tv', m, sv, rv, M, nv, kv, qv, t', h2, by omega⟩, fr'.toX (by omega)⟩

theorem half_step (h : Half p o w gb B N) (hB : B ≤ 8000000) (x : St) (hs : x.s.size ≤ 8000000) :
    Calls Tryz.prog 12 #[.pointer (some ⟨gb, 0, none⟩), x.val] w fun r w' => r = .returned (.bool true) ∧ ∃ o', Half p o' w' gb (B + x.s.size + 6) N ∧ FrX p o w o' w' := by
  obtain ⟨fb, wb, ls, ts, lv, tv, m, sv, rv, M, nv, kv, qv, h1, h2, h3⟩ := h
  refine (step_all h1 h2 (by omega) x (by omega)).mono ?_
  rintro r w' ⟨e, o', sv', rv', nv', kv', qv', m', M', t', ok', fx'⟩
  exact ⟨e, o', ⟨fb, wb, ls, ts, lv, tv, m', sv', rv', M', nv', kv', qv', t', ok', h3⟩, fx'⟩

theorem begin_side (p : Nat) (c : Cfg) (ho : Clean o w) :
    Calls Tryz.prog 10 #[c.val] w fun r w' => ∃ v o', r = .returned (.tuple #[v, .bool true]) ∧ Side p o' w' v 0 0 ∧ FrX p o w o' w' := by
  cases h : c.ok
  · refine (begin_no c w h).mono ?_
    rintro r w' ⟨e, hb⟩
    exact ⟨_, o, e, .inl rfl, FrX.of_below ho hb⟩
  · refine (begin_yes p c w ho h).mono ?_
    rintro r w' ⟨gb, fb, wb, o', e, t, fx⟩
    exact ⟨_, o', e, .inr ⟨gb, rfl, fb, wb, _, _, _, _, _, _, _, _, _, _, _, t, ok_new c h, Nat.le_refl _⟩, fx⟩

end
end Go.Proofs.YtlafkpaljibonaaGreat

namespace Go.Proofs.YtlafkpaljibonaaGreat
open Go.RowKit

set_option maxRecDepth 100000 in
set_option maxHeartbeats 8000000 in
theorem both_any (c d : Cfg) (sp : Option Addr) (n cap : Nat) (X : Nat → St) (w : World) (hX : IsSteps w sp n X) (hsum : tot X n ≤ 8000000) :
    Calls Tryz.prog 9 #[c.val, d.val, .slice sp n cap] w fun r w' => r = .returned (.bool true) ∧ Below w.heap.size w w' := by
  have kc : Hid (∀ o w, Clean o w → Calls Tryz.prog 10 #[c.val] w fun r w' => ∃ v o', r = .returned (.tuple #[v, .bool true]) ∧ Side 0 o' w' v 0 0 ∧ FrX 0 o w o' w') := fun o w ho => begin_side 0 c ho
  have kd : Hid (∀ o w, Clean o w → Calls Tryz.prog 10 #[d.val] w fun r w' => ∃ v o', r = .returned (.tuple #[v, .bool true]) ∧ Side 3 o' w' v 0 0 ∧ FrX 3 o w o' w') := fun o w ho => begin_side 3 d ho
  have hnT := tot_ge X n
  have hbA : Below w.heap.size w ((w.alloc (.cells #[.int .i64 c.ch, .bool c.dyn, .int .i64 c.mn, .int .i64 c.mx, .int .i64 c.mr, .int .i64 c.tmo, .int .i64 c.bl] 23)).alloc (.cells #[.int .i64 d.ch, .bool d.dyn, .int .i64 d.mn, .int .i64 d.mx, .int .i64 d.mr, .int .i64 d.tmo, .int .i64 d.bl] 23)) := ((Below.refl _ _).alloc (Nat.le_refl _) _).alloc (by simp) _
  have xd := Blk.made (w.alloc (.cells #[.int .i64 c.ch, .bool c.dyn, .int .i64 c.mn, .int .i64 c.mx, .int .i64 c.mr, .int .i64 c.tmo, .int .i64 c.bl] 23)) 23 [.int .i64 d.ch, .bool d.dyn, .int .i64 d.mn, .int .i64 d.mx, .int .i64 d.mr, .int .i64 d.tmo, .int .i64 d.bl]
  rw [show (w.alloc (.cells #[.int .i64 c.ch, .bool c.dyn, .int .i64 c.mn, .int .i64 c.mx, .int .i64 c.mr, .int .i64 c.tmo, .int .i64 c.bl] 23)).heap.size = w.heap.size + 1 from by simp] at xd
  unfold Cfg.val at *
  go_enter Tryz.func9, Tryz.ntmps9
  go_wp2_with fail
  have xd0 : Blk ((w.alloc (.cells #[.int .i64 c.ch, .bool c.dyn, .int .i64 c.mn, .int .i64 c.mx, .int .i64 c.mr, .int .i64 c.tmo, .int .i64 c.bl] 23)).alloc (.cells #[.int .i64 d.ch, .bool d.dyn, .int .i64 d.mn, .int .i64 d.mx, .int .i64 d.mr, .int .i64 d.tmo, .int .i64 d.bl] 23)) (w.heap.size + 1) 23 [.int .i64 d.ch, .bool d.dyn, .int .i64 d.mn, .int .i64 d.mx, .int .i64 d.mr, .int .i64 d.tmo, .int .i64 d.bl] := xd
  clear xd
  generalize (w.alloc (.cells #[.int .i64 c.ch, .bool c.dyn, .int .i64 c.mn, .int .i64 c.mx, .int .i64 c.mr, .int .i64 c.tmo, .int .i64 c.bl] 23)).alloc (.cells #[.int .i64 d.ch, .bool d.dyn, .int .i64 d.mn, .int .i64 d.mx, .int .i64 d.mr, .int .i64 d.tmo, .int .i64 d.bl] 23) = w0 at *
  refine (kc.out noTag _ (fun _ _ => rfl)).mono ?_
  rintro e w1 ⟨gv, o1, rfl, hg1, fx1⟩
  have xd1 := xd0.keep (fx1.block _ xd0.lt (.inl (Nat.le_refl _)))
  have d0 := xd1.cell (k := 0) (u := .int .i64 d.ch) rfl
  have d1 := xd1.cell (k := 1) (u := .bool d.dyn) rfl
  have d2 := xd1.cell (k := 2) (u := .int .i64 d.mn) rfl
  have d3 := xd1.cell (k := 3) (u := .int .i64 d.mx) rfl
  have d4 := xd1.cell (k := 4) (u := .int .i64 d.mr) rfl
  have d5 := xd1.cell (k := 5) (u := .int .i64 d.tmo) rfl
  have d6 := xd1.cell (k := 6) (u := .int .i64 d.bl) rfl
  clear xd0 xd1 kc
  go_wp2_with fail
  refine (kd.out o1 w1 fx1.clean).mono ?_
  rintro e w2 ⟨hv, o2, rfl, hh2, fx2⟩
  have hg2 : Side 0 o2 w2 gv 0 0 := hg1.frx fx2 (by omega)
  have fb0 : FrB noTag w0 o2 w2 := fx1.toB.trans fx2.toB
  have hb2 : Below w.heap.size w w2 := hbA.trans ⟨fb0.os, fb0.tape, fb0.output, fb0.size, fun g hg => fb0.block g (Nat.lt_of_lt_of_le hg hbA.size) rfl⟩
  have ho2 : ∀ g, g < w.heap.size → o2 g = (0, 0) := fun g hg => fb0.tags g (Nat.lt_of_lt_of_le hg hbA.size)
  clear d0 d1 d2 d3 d4 d5 d6 kd hg1 fx1 hbA
  have hX1 : IsSteps w2 sp n X := by
    rcases hX with e | ⟨b, off, e, hbl, hcell⟩
    · exact .inl e
    · exact .inr ⟨b, off, e, Nat.lt_of_lt_of_le hbl hb2.size, fun k hk j u hu => by rw [hb2.cell (by exact hbl)]; exact hcell k hk j u hu⟩
  have hbX : ∀ b off, sp = some ⟨b, off, none⟩ → 0 < n → o2 b = (0, 0) ∧ b < w2.heap.size := by
    intro b off e hn
    rcases hX with e0 | ⟨b', off', e', hbl, -⟩
    · omega
    · rw [e] at e'
      simp only [Option.some.injEq, Addr.mk.injEq, and_true] at e'
      rw [e'.1]
      exact ⟨ho2 b' hbl, Nat.lt_of_lt_of_le hbl hb2.size⟩
  have fx0 : FrB o2 w2 o2 w2 := (FrX.of_below (p := 0) fx2.clean (Below.refl _ _)).toB
  have fin : Hid (∀ o' w', FrB o2 w2 o' w' → Below w.heap.size w w') := fun o' w' fxF => ⟨fxF.os.trans hb2.os, fxF.tape.trans hb2.tape, fxF.output.trans hb2.output, Nat.le_trans hb2.size fxF.size, fun g hg => (fxF.block g (Nat.lt_of_lt_of_le hg hb2.size) (by rw [ho2 g hg])).trans (hb2.block g hg)⟩
  clear fb0 fx2 hX
  go_wp2
  go_loopw [8, 11] (fun okv i w' => ∃ k : Nat, k ≤ n ∧ okv = .bool true ∧ i = .int .i64 k ∧ ∃ o', Side 0 o' w' gv (tot X k) k ∧ Side 3 o' w' hv (tot X k) k ∧ FrB o2 w2 o' w') (fun _ i _ => n - (intOf i).toNat)
  case atStart => exact ⟨0, by omega, rfl, rfl, o2, hg2, hh2, fx0⟩
  case round =>
    obtain ⟨k, hk, rfl, rfl, o3, hg, hh, hfx⟩ := hrel
    clear hg2 hh2 fx0
    have htk := tot_mono X hk
    by_cases hlt : k < n
    · obtain ⟨b, off, rfl, hcell⟩ : ∃ b off, sp = some ⟨b, off, none⟩ ∧ ∀ j u, ((X k).cells)[j]? = some u → wr.cell? ⟨b, off + k * 11 + j, none⟩ = some u := by
        rcases hX1 with e | ⟨b, off, e, hbl, hcell⟩
        · omega
        · obtain ⟨q1, q2⟩ := hbX b off e (by omega)
          exact ⟨b, off, e, fun j u hu => by rw [World.cell?_of_block (hfx.block b q2 (by rw [q1]))]; exact hcell k hlt j u hu⟩
      have HT : Hid (tot X (k + 1) = tot X k + (X k).s.size + 6) := rfl
      have htk1 := tot_mono X (show k + 1 ≤ n from hlt)
      have hsz : (X k).s.size ≤ 8000000 := by have := HT.out; omega
      clear hX1 hbX
      generalize X k = x at *
      have hkI : (k : Int) < n := by omega
      have g0 := hcell 0 (.int .i64 x.kind) rfl
      have g1 := hcell 1 (.int .i64 x.a) rfl
      have g2 := hcell 2 (.string x.s) rfl
      have g3 := hcell 3 (.int .i64 x.c.ch) rfl
      have g4 := hcell 4 (.bool x.c.dyn) rfl
      have g5 := hcell 5 (.int .i64 x.c.mn) rfl
      have g6 := hcell 6 (.int .i64 x.c.mx) rfl
      have g7 := hcell 7 (.int .i64 x.c.mr) rfl
      have g8 := hcell 8 (.int .i64 x.c.tmo) rfl
      have g9 := hcell 9 (.int .i64 x.c.bl) rfl
      have g10 := hcell 10 (.int .i64 x.t) rfl
      rw [Nat.add_zero] at g0
      clear hcell
      have hbA : Below wr.heap.size wr (wr.alloc (.cells #[.int .i64 x.kind, .int .i64 x.a, .string x.s, .int .i64 x.c.ch, .bool x.c.dyn, .int .i64 x.c.mn, .int .i64 x.c.mx, .int .i64 x.c.mr, .int .i64 x.c.tmo, .int .i64 x.c.bl, .int .i64 x.t] 33)) := (Below.refl _ _).alloc (Nat.le_refl _) _
      have gA := hg.below hbA
      have hA := hh.below hbA
      have fxA := hfx.below hbA
      by_cases hT : x.t.tmod 2 = 0
      · have hT1 : (x.t.tmod 2 == 0) = true := by simp [hT]
        have hT2 : (x.t.tmod 2 != 0) = false := by simp [hT]
        clear hT
        rcases gA with e | ⟨cb, e, hme⟩
        · subst e
          go_wp2
          exact ⟨⟨k + 1, hlt, by first | rfl | trivial, by go_num, o3, by rw [HT.out]; exact (.inl rfl), by rw [HT.out]; exact (hA.mono (by omega) (by omega)), fxA⟩, by simp [intOf]; omega⟩
        · subst e
          by_cases h1 : x.kind = 1
          · have h1' : (x.kind == 1) = true := by simp [h1]
            clear h1
            go_wp2_with fail
            refine (half_looks hme (by omega) (by omega)).mono ?_
            rintro e w4 ⟨rfl, o4, h4, fx4⟩
            clear g0 g1 g2 g3 g4 g5 g6 g7 g8 g9 g10
            go_wp2
            exact ⟨⟨k + 1, hlt, by first | rfl | trivial, by go_num, o4, by rw [HT.out]; exact (.inr ⟨cb, rfl, h4.mono (by omega) (by omega)⟩), by rw [HT.out]; exact ((hA.frx fx4 (by omega)).mono (by omega) (by omega)), (fxA.trans fx4.toB)⟩, by simp [intOf]; omega⟩
          · have h1' : (x.kind == 1) = false := by simpa using h1
            have HS : Hid (∀ w', Half 0 o3 w' cb (tot X k) k → Calls Tryz.prog 12 #[.pointer (some ⟨cb, 0, none⟩), .agg #[.int .i64 x.kind, .int .i64 x.a, .string x.s, .int .i64 x.c.ch, .bool x.c.dyn, .int .i64 x.c.mn, .int .i64 x.c.mx, .int .i64 x.c.mr, .int .i64 x.c.tmo, .int .i64 x.c.bl, .int .i64 x.t]] w' fun r w'' => r = .returned (.bool true) ∧ ∃ o', Half 0 o' w'' cb (tot X k + x.s.size + 6) k ∧ FrX 0 o3 w' o' w'') := fun w' h' => half_step h' (by omega) x (by omega)
            go_wp2_with fail
            refine (HS.out _ hme).mono ?_
            rintro e w4 ⟨rfl, o4, h4, fx4⟩
            clear g0 g1 g2 g3 g4 g5 g6 g7 g8 g9 g10
            go_wp2
            exact ⟨⟨k + 1, hlt, by first | rfl | trivial, by go_num, o4, by rw [HT.out]; exact (.inr ⟨cb, rfl, h4.mono (by omega) (by omega)⟩), by rw [HT.out]; exact ((hA.frx fx4 (by omega)).mono (by omega) (by omega)), (fxA.trans fx4.toB)⟩, by simp [intOf]; omega⟩
      · have hT1 : (x.t.tmod 2 == 0) = false := by simpa using hT
        have hT2 : (x.t.tmod 2 != 0) = true := by simpa using hT
        clear hT
        rcases hA with e | ⟨cb, e, hme⟩
        · subst e
          go_wp2
          exact ⟨⟨k + 1, hlt, by first | rfl | trivial, by go_num, o3, by rw [HT.out]; exact (gA.mono (by omega) (by omega)), by rw [HT.out]; exact (.inl rfl), fxA⟩, by simp [intOf]; omega⟩
        · subst e
          by_cases h1 : x.kind = 1
          · have h1' : (x.kind == 1) = true := by simp [h1]
            clear h1
            go_wp2_with fail
            refine (half_looks hme (by omega) (by omega)).mono ?_
            rintro e w4 ⟨rfl, o4, h4, fx4⟩
            clear g0 g1 g2 g3 g4 g5 g6 g7 g8 g9 g10
            go_wp2
            exact ⟨⟨k + 1, hlt, by first | rfl | trivial, by go_num, o4, by rw [HT.out]; exact ((gA.frx fx4 (by omega)).mono (by omega) (by omega)), by rw [HT.out]; exact (.inr ⟨cb, rfl, h4.mono (by omega) (by omega)⟩), (fxA.trans fx4.toB)⟩, by simp [intOf]; omega⟩
          · have h1' : (x.kind == 1) = false := by simpa using h1
            have HS : Hid (∀ w', Half 3 o3 w' cb (tot X k) k → Calls Tryz.prog 12 #[.pointer (some ⟨cb, 0, none⟩), .agg #[.int .i64 x.kind, .int .i64 x.a, .string x.s, .int .i64 x.c.ch, .bool x.c.dyn, .int .i64 x.c.mn, .int .i64 x.c.mx, .int .i64 x.c.mr, .int .i64 x.c.tmo, .int .i64 x.c.bl, .int .i64 x.t]] w' fun r w'' => r = .returned (.bool true) ∧ ∃ o', Half 3 o' w'' cb (tot X k + x.s.size + 6) k ∧ FrX 3 o3 w' o' w'') := fun w' h' => half_step h' (by omega) x (by omega)
            go_wp2_with fail
            refine (HS.out _ hme).mono ?_
            rintro e w4 ⟨rfl, o4, h4, fx4⟩
            clear g0 g1 g2 g3 g4 g5 g6 g7 g8 g9 g10
            go_wp2
            exact ⟨⟨k + 1, hlt, by first | rfl | trivial, by go_num, o4, by rw [HT.out]; exact ((gA.frx fx4 (by omega)).mono (by omega) (by omega)), by rw [HT.out]; exact (.inr ⟨cb, rfl, h4.mono (by omega) (by omega)⟩), (fxA.trans fx4.toB)⟩, by simp [intOf]; omega⟩
    · have hkn : k = n := by omega
      have hkI : ¬ ((k : Int) < n) := by omega
      rcases hg with e | ⟨cb, e, hme⟩
      · subst e
        rcases hh with e | ⟨db, e, hyo⟩
        · subst e
          go_wp2
          go_ret
          exact ⟨rfl, fin.out _ _ hfx⟩
        · subst e
          go_wp2_with fail
          refine (half_looks hyo (by omega) (by omega)).mono ?_
          rintro e w4 ⟨rfl, o4, h4, fx4⟩
          go_wp2
          go_ret
          exact ⟨rfl, fin.out _ _ (hfx.trans fx4.toB)⟩
      · subst e
        rcases hh with e | ⟨db, e, hyo⟩
        · subst e
          go_wp2_with fail
          refine (half_looks hme (by omega) (by omega)).mono ?_
          rintro e w4 ⟨rfl, o4, h4, fx4⟩
          go_wp2
          go_ret
          exact ⟨rfl, fin.out _ _ (hfx.trans fx4.toB)⟩
        · subst e
          go_wp2_with fail
          refine (half_looks hme (by omega) (by omega)).mono ?_
          rintro e w4 ⟨rfl, o4, h4, fx4⟩
          go_wp2_with fail
          refine (half_looks (hyo.frx fx4 (by omega)) (by omega) (by omega)).mono ?_
          rintro e w5 ⟨rfl, o5, h5, fx5⟩
          go_wp2
          go_ret
          exact ⟨rfl, fin.out _ _ ((hfx.trans fx4.toB).trans fx5.toB)⟩

end Go.Proofs.YtlafkpaljibonaaGreat

namespace Go.Proofs.YtlafkpaljibonaaGreat.all
open Go.ChangeShapes Go.WideShapes Go.ChangeAt Go.RowKit Go.Joins Go.Deep Go.Proofs.YtlafkpaljibonaaGreat Go.Proofs.YtlafkpaljibonaaGreat.script

set_option maxRecDepth 100000 in
set_option maxHeartbeats 1000000 in
theorem walk (c d : Cfg) (sp : Option Addr) (n cap : Nat) (X : Nat → St) (w : World) (hX : IsSteps w sp n X) (hsum : tot X n ≤ 8000000) :
    Calls Tryz.prog 7 #[c.val, d.val, .slice sp n cap] w fun r w' => r = .returned (.bool true) ∧ Below w.heap.size w w' := by
  have hb0 : Below w.heap.size w ((w.alloc (.cells #[.int .i64 c.ch, .bool c.dyn, .int .i64 c.mn, .int .i64 c.mx, .int .i64 c.mr, .int .i64 c.tmo, .int .i64 c.bl] 23)).alloc (.cells #[.int .i64 d.ch, .bool d.dyn, .int .i64 d.mn, .int .i64 d.mx, .int .i64 d.mr, .int .i64 d.tmo, .int .i64 d.bl] 23)) := ((Below.refl _ _).alloc (Nat.le_refl _) _).alloc (by simp) _
  have hX1 : IsSteps ((w.alloc (.cells #[.int .i64 c.ch, .bool c.dyn, .int .i64 c.mn, .int .i64 c.mx, .int .i64 c.mr, .int .i64 c.tmo, .int .i64 c.bl] 23)).alloc (.cells #[.int .i64 d.ch, .bool d.dyn, .int .i64 d.mn, .int .i64 d.mx, .int .i64 d.mr, .int .i64 d.tmo, .int .i64 d.bl] 23)) sp n X := by
    rcases hX with e | ⟨b, off, e, hbl, hcell⟩
    · exact .inl e
    · exact .inr ⟨b, off, e, Nat.lt_of_lt_of_le hbl hb0.size, fun k hk j u hu => by rw [hb0.cell (by exact hbl)]; exact hcell k hk j u hu⟩
  have k1 : Hid (∀ w, IsSteps w sp n X → Calls Tryz.prog 9 #[c.val, d.val, .slice sp n cap] w fun r w' => r = .returned (.bool true) ∧ Below w.heap.size w w') := fun w h => both_any c d sp n cap X w h hsum
  clear hX hsum
  unfold Cfg.val at *
  go_enter Tryz.func7, Tryz.ntmps7
  go_wp2_with fail
  refine (k1.out _ hX1).mono ?_
  rintro e w1 ⟨rfl, hb⟩
  go_wp2
  go_ret
  exact ⟨rfl, hb0.trans (hb.mono (by simp; omega))⟩

set_option maxRecDepth 100000 in
theorem contract (H : Type) (enc : TypeId × Value → H) (W : World) (base : Nat) (args : Array Value) (ds gs : List (DataW H)) (before : List MemPlace)
    (hval : ∀ (j : Nat) t v, Tryz.f7.params[j]? = some t → args[j]? = some v → Value.okWide Tryz.prog W .any base t v)
    (hW : DataW.Whole enc Tryz.prog Tryz.f7.params.toList Rows.allSpec.vars false W args.toList ds gs before) (hk : Rows.uptoSmall H (ds ++ gs) = true) :
    Calls Tryz.prog 7 args W fun e W' => ∃ v, e = .returned v ∧ Rows.allSpec.post enc Tryz.prog Tryz.f7 false true false false W args v W' := by
  have hW' := hW
  obtain ⟨p, q, hA0, hV, rfl, hfz, hnd⟩ := hW
  have hA : DataW.TrodAll enc Tryz.prog W 0 (fun _ => true) true Tryz.f7.params.toList args.toList ds p := hA0
  rw [Tryz.params7] at hA hval
  obtain ⟨v0, vs0, d0, ds0, p0, q0, hargs, rfl, rfl, h0, r0⟩ := trodAll_cons hA
  obtain ⟨v1, vs1, d1, ds1, p1, q1, rfl, rfl, rfl, h1, r1⟩ := trodAll_cons r0
  obtain ⟨v2, vs2, d2, ds2, p2, q2, rfl, rfl, rfl, h2, r2⟩ := trodAll_cons r1
  obtain ⟨rfl, rfl, rfl⟩ := trodAll_nil r2
  obtain rfl : args = #[v0, v1, v2] := by cases args; simp_all
  obtain ⟨rfl, rfl⟩ := trodVars_none hV
  have k0 := h0
  have k1 := h1
  have k2 := h2
  have lt0 : ∀ x ∈ p0, x.block < W.heap.size := by obtain ⟨m, hm⟩ := k0; exact DataW.trod_lt m _ _ _ hm
  have lt1 : ∀ x ∈ p1, x.block < W.heap.size := by obtain ⟨m, hm⟩ := k1; exact DataW.trod_lt m _ _ _ hm
  have lt2 : ∀ x ∈ p2, x.block < W.heap.size := by obtain ⟨m, hm⟩ := k2; exact DataW.trod_lt m _ _ _ hm
  obtain ⟨c, rfl⟩ := cfg_of (hval 0 23 v0 rfl rfl) h0
  obtain ⟨d, rfl⟩ := cfg_of (hval 1 23 v1 rfl rfl) h1
  obtain ⟨a2, len2, cap2, rfl⟩ := okWide_slice Tryz.underlying26 (hval 2 26 v2 rfl rfl)
  obtain ⟨X, hX, hsum⟩ := steps_of h2
  clear hA0
  simp only [List.append_nil] at hW' hk
  have hb : Rows.uptoBulkAll [d0, d1, d2] ≤ 1048576 := of_decide_eq_true hk
  simp only [Rows.uptoBulkAll] at hb
  refine (walk c d a2 len2 cap2 X W hX (by omega)).mono fun e W' ⟨he, bel⟩ => ?_
  subst he
  exact ⟨_, rfl, _, _, _, [], _, [], hW', trodAll_mk1 (shut_bool Tryz.underlying4 _), (trodAll_cons_mk (Below.trod laidOut (by kernel_rfl) (of_decide_eq_true (by kernel_rfl)) k0 bel lt0) (trodAll_cons_mk (Below.trod laidOut (by kernel_rfl) (of_decide_eq_true (by kernel_rfl)) k1 bel lt1) (trodAll_cons_mk (Below.trod laidOut (by kernel_rfl) (of_decide_eq_true (by kernel_rfl)) k2 bel lt2) trodAll_mk0))), rfl, bel.frame _, fun h => by cases h⟩

set_option maxRecDepth 100000 in
theorem lifted (os : Os) (started : os.Started) (H : Type) (enc : TypeId × Value → H) (F : Stop.Interp) :
    ReturnsInHanded {} Tryz.checked os 7 .any ((Rows.OpenSpec.upto Rows.allSpec).pre6 enc Tryz.prog Tryz.f7 Rows.allUptoRow.domain false) (((Rows.OpenSpec.upto Rows.allSpec).at F).post enc Tryz.prog Tryz.f7 false true false false) := by
  refine returnsInHanded_of_cond (C := Tryz.checked) (s := Rows.OpenSpec.upto Rows.allSpec) (k := Rows.uptoSmall) rfl own started (by kernel_rfl) Tryz.func7
    (OpenSpec.witness (enc := enc) (C := Tryz.checked) (s := Rows.OpenSpec.upto Rows.allSpec) (k := Rows.uptoSmall) rfl false ⟨#[], #[.agg #[.int .i64 0, .bool false, .int .i64 0, .int .i64 0, .int .i64 0, .int .i64 0, .int .i64 0], .agg #[.int .i64 0, .bool false, .int .i64 0, .int .i64 0, .int .i64 0, .int .i64 0, .int .i64 0], .slice none 0 0], []⟩ 8 (by kernel_rfl) (by kernel_rfl) (by kernel_rfl)
      (x := ([.agg [.lit (.int .i64 0), .lit (.bool false), .lit (.int .i64 0), .lit (.int .i64 0), .lit (.int .i64 0), .lit (.int .i64 0), .lit (.int .i64 0)], .agg [.lit (.int .i64 0), .lit (.bool false), .lit (.int .i64 0), .lit (.int .i64 0), .lit (.int .i64 0), .lit (.int .i64 0), .lit (.int .i64 0)], .nil], [], [])) (by kernel_rfl) rfl (by kernel_rfl)) ?_
  intro W base args ds gs before hval hW _ hk _
  exact contract H enc W base args ds gs before hval hW hk

set_option maxRecDepth 100000 in
theorem proved : Rows.AllUptoSaid :=
  OpenClaim.holds_of_cond 7 Tryz.f7 rfl rfl rfl rfl rfl rfl rfl ⟨rfl, rfl, rfl, rfl, rfl⟩ rfl rfl rfl rfl rfl (by kernel_rfl) Tryz.func7 (by kernel_rfl)
    (of_decide_eq_true (by kernel_rfl)) (by unfold Func.isWrapper; first | (rw [if_pos (by decide +kernel)]; kernel_rfl) | (rw [if_neg (by decide +kernel)]; exact ⟨rfl, rfl⟩))
    (fun os started H enc _ F => lifted os started H enc F)
#print axioms proved
end Go.Proofs.YtlafkpaljibonaaGreat.all

namespace Go.Proofs.YtlafkpaljibonaaGreat
end Go.Proofs.YtlafkpaljibonaaGreat
