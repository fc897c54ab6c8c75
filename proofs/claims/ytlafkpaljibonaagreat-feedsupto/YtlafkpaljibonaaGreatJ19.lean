import Derived.Test.YtlafkpaljibonaaGreatJ18
import Derived.Test.YtlafkpaljibonaaGreatJ13
namespace Go.Proofs.YtlafkpaljibonaaGreat
open Go.RowKit

section
variable {p : Nat} {o o' : Nat → Tag} {w w' : World} {gb fb wb : Nat} {ls ts : List Value} {lv tv : Value} {m : PM} {sv : Nat → Value} {rv : Value} {M : RM} {nv : Nat → Value} {kv qv : Value} {B : Nat}

/-- What a step leaves. -/
def After (p : Nat) (o : Nat → Tag) (w : World) (gb fb wb : Nat) (ls ts : List Value) (lv tv : Value) (B : Nat) (w' : World) : Prop :=
  ∃ o' sv' rv' nv' kv' qv' m' M', Trio p o' w' gb fb wb ls ts lv tv m' sv' rv' M' nv' kv' qv' ∧ Ok m' M' B ∧ FrX p o w o' w'

set_option maxRecDepth 100000 in
set_option maxHeartbeats 4000000 in
theorem step_connect (h : Trio p o w gb fb wb ls ts lv tv m sv rv M nv kv qv) (hok : Ok m M B) (hB : B ≤ 10000000) (x : St) (hs : x.s.size ≤ 10000000) (hx : x.kind = 2) :
    Calls Tryz.prog 12 #[.pointer (some ⟨gb, 0, none⟩), x.val] w fun r w' => r = .returned (.bool true) ∧ After p o w gb fb wb ls ts lv tv (B + x.s.size + 1) w' := by
  obtain ⟨kind, a, s, ⟨ch, dyn, mn, mx, mr, tmo, bl⟩, t⟩ := x
  simp only at hx hs
  subst hx
  have hl : Hid (∀ w', Below w.heap.size w w' → Calls Tryz.prog 23 #[.pointer (some ⟨gb, 0, none⟩), .agg #[.int .i64 2, .int .i64 a, .string s, .int .i64 ch, .bool dyn, .int .i64 mn, .int .i64 mx, .int .i64 mr, .int .i64 tmo, .int .i64 bl, .int .i64 t]] w' fun r w'' => ∃ e, r = .returned (.tuple #[.int .i64 e, .int .i64 e]) ∧ After p o w gb fb wb ls ts lv tv (B + s.size + 1) w'') := fun w' hb => by
    refine (lines_connect (h.below hb) hok hB ⟨2, a, s, ⟨ch, dyn, mn, mx, mr, tmo, bl⟩, t⟩ hs rfl).mono ?_
    rintro r w'' ⟨e, h1, o', sv', rv', nv', kv', qv', m', M', h2, h3, h4⟩
    exact ⟨e, h1, o', sv', rv', nv', kv', qv', m', M', h2, h3, (FrX.of_below (p := p) h.f.clean hb).trans h4⟩
  simp only [St.val]
  generalize After p o w gb fb wb ls ts lv tv (B + s.size + 1) = A at *
  clear h hok hB hs
  have hb0 : Below w.heap.size w (w.alloc (.cells #[.int .i64 2, .int .i64 a, .string s, .int .i64 ch, .bool dyn, .int .i64 mn, .int .i64 mx, .int .i64 mr, .int .i64 tmo, .int .i64 bl, .int .i64 t] 33)) := (Below.refl _ _).alloc (Nat.le_refl _) _
  go_enter Tryz.func12, Tryz.ntmps12
  go_wp2_with fail
  refine (hl.out _ hb0).mono ?_
  rintro r w2 ⟨e, rfl, hA⟩
  go_wp2
  go_ret
  exact ⟨by simp, hA⟩

set_option maxRecDepth 100000 in
set_option maxHeartbeats 4000000 in
theorem step_hangup (h : Trio p o w gb fb wb ls ts lv tv m sv rv M nv kv qv) (hok : Ok m M B) (hB : B ≤ 10000000) (x : St) (hs : x.s.size ≤ 10000000) (hx : x.kind = 3) :
    Calls Tryz.prog 12 #[.pointer (some ⟨gb, 0, none⟩), x.val] w fun r w' => r = .returned (.bool true) ∧ After p o w gb fb wb ls ts lv tv (B + x.s.size + 1) w' := by
  obtain ⟨kind, a, s, ⟨ch, dyn, mn, mx, mr, tmo, bl⟩, t⟩ := x
  simp only at hx hs
  subst hx
  have hl : Hid (∀ w', Below w.heap.size w w' → Calls Tryz.prog 23 #[.pointer (some ⟨gb, 0, none⟩), .agg #[.int .i64 3, .int .i64 a, .string s, .int .i64 ch, .bool dyn, .int .i64 mn, .int .i64 mx, .int .i64 mr, .int .i64 tmo, .int .i64 bl, .int .i64 t]] w' fun r w'' => ∃ e, r = .returned (.tuple #[.int .i64 e, .int .i64 e]) ∧ After p o w gb fb wb ls ts lv tv (B + s.size + 1) w'') := fun w' hb => by
    refine (lines_hangup (h.below hb) hok hB ⟨3, a, s, ⟨ch, dyn, mn, mx, mr, tmo, bl⟩, t⟩ hs rfl).mono ?_
    rintro r w'' ⟨e, h1, o', sv', rv', nv', kv', qv', m', M', h2, h3, h4⟩
    exact ⟨e, h1, o', sv', rv', nv', kv', qv', m', M', h2, h3, (FrX.of_below (p := p) h.f.clean hb).trans h4⟩
  simp only [St.val]
  generalize After p o w gb fb wb ls ts lv tv (B + s.size + 1) = A at *
  clear h hok hB hs
  have hb0 : Below w.heap.size w (w.alloc (.cells #[.int .i64 3, .int .i64 a, .string s, .int .i64 ch, .bool dyn, .int .i64 mn, .int .i64 mx, .int .i64 mr, .int .i64 tmo, .int .i64 bl, .int .i64 t] 33)) := (Below.refl _ _).alloc (Nat.le_refl _) _
  go_enter Tryz.func12, Tryz.ntmps12
  go_wp2_with fail
  refine (hl.out _ hb0).mono ?_
  rintro r w2 ⟨e, rfl, hA⟩
  go_wp2
  go_ret
  exact ⟨by simp, hA⟩

set_option maxRecDepth 100000 in
set_option maxHeartbeats 4000000 in
theorem step_feed (h : Trio p o w gb fb wb ls ts lv tv m sv rv M nv kv qv) (hok : Ok m M B) (hB : B ≤ 10000000) (x : St) (hs : x.s.size ≤ 10000000) (hx : x.kind = 4) :
    Calls Tryz.prog 12 #[.pointer (some ⟨gb, 0, none⟩), x.val] w fun r w' => r = .returned (.bool true) ∧ After p o w gb fb wb ls ts lv tv (B + x.s.size + 1) w' := by
  obtain ⟨kind, a, s, ⟨ch, dyn, mn, mx, mr, tmo, bl⟩, t⟩ := x
  simp only at hx hs
  subst hx
  have hl : Hid (∀ w', Below w.heap.size w w' → Calls Tryz.prog 23 #[.pointer (some ⟨gb, 0, none⟩), .agg #[.int .i64 4, .int .i64 a, .string s, .int .i64 ch, .bool dyn, .int .i64 mn, .int .i64 mx, .int .i64 mr, .int .i64 tmo, .int .i64 bl, .int .i64 t]] w' fun r w'' => ∃ e, r = .returned (.tuple #[.int .i64 e, .int .i64 e]) ∧ After p o w gb fb wb ls ts lv tv (B + s.size + 1) w'') := fun w' hb => by
    refine (lines_feed (h.below hb) hok hB ⟨4, a, s, ⟨ch, dyn, mn, mx, mr, tmo, bl⟩, t⟩ hs rfl).mono ?_
    rintro r w'' ⟨e, h1, o', sv', rv', nv', kv', qv', m', M', h2, h3, h4⟩
    exact ⟨e, h1, o', sv', rv', nv', kv', qv', m', M', h2, h3, (FrX.of_below (p := p) h.f.clean hb).trans h4⟩
  simp only [St.val]
  generalize After p o w gb fb wb ls ts lv tv (B + s.size + 1) = A at *
  clear h hok hB hs
  have hb0 : Below w.heap.size w (w.alloc (.cells #[.int .i64 4, .int .i64 a, .string s, .int .i64 ch, .bool dyn, .int .i64 mn, .int .i64 mx, .int .i64 mr, .int .i64 tmo, .int .i64 bl, .int .i64 t] 33)) := (Below.refl _ _).alloc (Nat.le_refl _) _
  go_enter Tryz.func12, Tryz.ntmps12
  go_wp2_with fail
  refine (hl.out _ hb0).mono ?_
  rintro r w2 ⟨e, rfl, hA⟩
  go_wp2
  go_ret
  exact ⟨by simp, hA⟩

set_option maxRecDepth 100000 in
set_option maxHeartbeats 4000000 in
theorem step_spawned (h : Trio p o w gb fb wb ls ts lv tv m sv rv M nv kv qv) (hok : Ok m M B) (hB : B ≤ 10000000) (x : St) (hs : x.s.size ≤ 10000000) (hx : x.kind = 5) :
    Calls Tryz.prog 12 #[.pointer (some ⟨gb, 0, none⟩), x.val] w fun r w' => r = .returned (.bool true) ∧ After p o w gb fb wb ls ts lv tv (B + x.s.size + 1) w' := by
  obtain ⟨kind, a, s, ⟨ch, dyn, mn, mx, mr, tmo, bl⟩, t⟩ := x
  simp only at hx hs
  subst hx
  have hl : Hid (∀ w', Below w.heap.size w w' → Calls Tryz.prog 24 #[.pointer (some ⟨gb, 0, none⟩), .agg #[.int .i64 5, .int .i64 a, .string s, .int .i64 ch, .bool dyn, .int .i64 mn, .int .i64 mx, .int .i64 mr, .int .i64 tmo, .int .i64 bl, .int .i64 t]] w' fun r w'' => ∃ e, r = .returned (.tuple #[.int .i64 e, .int .i64 e]) ∧ After p o w gb fb wb ls ts lv tv (B + s.size + 1) w'') := fun w' hb => by
    refine (works_spawned (h.below hb) hok hB ⟨5, a, s, ⟨ch, dyn, mn, mx, mr, tmo, bl⟩, t⟩ hs rfl).mono ?_
    rintro r w'' ⟨e, h1, o', sv', rv', nv', kv', qv', m', M', h2, h3, h4⟩
    exact ⟨e, h1, o', sv', rv', nv', kv', qv', m', M', h2, h3, (FrX.of_below (p := p) h.f.clean hb).trans h4⟩
  simp only [St.val]
  generalize After p o w gb fb wb ls ts lv tv (B + s.size + 1) = A at *
  clear h hok hB hs
  have hb0 : Below w.heap.size w (w.alloc (.cells #[.int .i64 5, .int .i64 a, .string s, .int .i64 ch, .bool dyn, .int .i64 mn, .int .i64 mx, .int .i64 mr, .int .i64 tmo, .int .i64 bl, .int .i64 t] 33)) := (Below.refl _ _).alloc (Nat.le_refl _) _
  go_enter Tryz.func12, Tryz.ntmps12
  go_wp2_with fail
  refine (hl.out _ hb0).mono ?_
  rintro r w2 ⟨e, rfl, hA⟩
  go_wp2
  go_ret
  exact ⟨by simp, hA⟩

set_option maxRecDepth 100000 in
set_option maxHeartbeats 4000000 in
theorem step_output (h : Trio p o w gb fb wb ls ts lv tv m sv rv M nv kv qv) (hok : Ok m M B) (hB : B ≤ 10000000) (x : St) (hs : x.s.size ≤ 10000000) (hx : x.kind = 6) :
    Calls Tryz.prog 12 #[.pointer (some ⟨gb, 0, none⟩), x.val] w fun r w' => r = .returned (.bool true) ∧ After p o w gb fb wb ls ts lv tv (B + x.s.size + 1) w' := by
  obtain ⟨kind, a, s, ⟨ch, dyn, mn, mx, mr, tmo, bl⟩, t⟩ := x
  simp only at hx hs
  subst hx
  have hl : Hid (∀ w', Below w.heap.size w w' → Calls Tryz.prog 24 #[.pointer (some ⟨gb, 0, none⟩), .agg #[.int .i64 6, .int .i64 a, .string s, .int .i64 ch, .bool dyn, .int .i64 mn, .int .i64 mx, .int .i64 mr, .int .i64 tmo, .int .i64 bl, .int .i64 t]] w' fun r w'' => ∃ e, r = .returned (.tuple #[.int .i64 e, .int .i64 e]) ∧ After p o w gb fb wb ls ts lv tv (B + s.size + 1) w'') := fun w' hb => by
    refine (works_output (h.below hb) hok hB ⟨6, a, s, ⟨ch, dyn, mn, mx, mr, tmo, bl⟩, t⟩ hs rfl).mono ?_
    rintro r w'' ⟨e, h1, o', sv', rv', nv', kv', qv', m', M', h2, h3, h4⟩
    exact ⟨e, h1, o', sv', rv', nv', kv', qv', m', M', h2, h3, (FrX.of_below (p := p) h.f.clean hb).trans h4⟩
  simp only [St.val]
  generalize After p o w gb fb wb ls ts lv tv (B + s.size + 1) = A at *
  clear h hok hB hs
  have hb0 : Below w.heap.size w (w.alloc (.cells #[.int .i64 6, .int .i64 a, .string s, .int .i64 ch, .bool dyn, .int .i64 mn, .int .i64 mx, .int .i64 mr, .int .i64 tmo, .int .i64 bl, .int .i64 t] 33)) := (Below.refl _ _).alloc (Nat.le_refl _) _
  go_enter Tryz.func12, Tryz.ntmps12
  go_wp2_with fail
  refine (hl.out _ hb0).mono ?_
  rintro r w2 ⟨e, rfl, hA⟩
  go_wp2
  go_ret
  exact ⟨by simp, hA⟩

set_option maxRecDepth 100000 in
set_option maxHeartbeats 4000000 in
theorem step_finished (h : Trio p o w gb fb wb ls ts lv tv m sv rv M nv kv qv) (hok : Ok m M B) (hB : B ≤ 10000000) (x : St) (hs : x.s.size ≤ 10000000) (hx : x.kind = 7) :
    Calls Tryz.prog 12 #[.pointer (some ⟨gb, 0, none⟩), x.val] w fun r w' => r = .returned (.bool true) ∧ After p o w gb fb wb ls ts lv tv (B + x.s.size + 1) w' := by
  obtain ⟨kind, a, s, ⟨ch, dyn, mn, mx, mr, tmo, bl⟩, t⟩ := x
  simp only at hx hs
  subst hx
  have hl : Hid (∀ w', Below w.heap.size w w' → Calls Tryz.prog 24 #[.pointer (some ⟨gb, 0, none⟩), .agg #[.int .i64 7, .int .i64 a, .string s, .int .i64 ch, .bool dyn, .int .i64 mn, .int .i64 mx, .int .i64 mr, .int .i64 tmo, .int .i64 bl, .int .i64 t]] w' fun r w'' => ∃ e, r = .returned (.tuple #[.int .i64 e, .int .i64 e]) ∧ After p o w gb fb wb ls ts lv tv (B + s.size + 1) w'') := fun w' hb => by
    refine (works_finished (h.below hb) hok hB ⟨7, a, s, ⟨ch, dyn, mn, mx, mr, tmo, bl⟩, t⟩ hs rfl).mono ?_
    rintro r w'' ⟨e, h1, o', sv', rv', nv', kv', qv', m', M', h2, h3, h4⟩
    exact ⟨e, h1, o', sv', rv', nv', kv', qv', m', M', h2, h3, (FrX.of_below (p := p) h.f.clean hb).trans h4⟩
  simp only [St.val]
  generalize After p o w gb fb wb ls ts lv tv (B + s.size + 1) = A at *
  clear h hok hB hs
  have hb0 : Below w.heap.size w (w.alloc (.cells #[.int .i64 7, .int .i64 a, .string s, .int .i64 ch, .bool dyn, .int .i64 mn, .int .i64 mx, .int .i64 mr, .int .i64 tmo, .int .i64 bl, .int .i64 t] 33)) := (Below.refl _ _).alloc (Nat.le_refl _) _
  go_enter Tryz.func12, Tryz.ntmps12
  go_wp2_with fail
  refine (hl.out _ hb0).mono ?_
  rintro r w2 ⟨e, rfl, hA⟩
  go_wp2
  go_ret
  exact ⟨by simp, hA⟩

set_option maxRecDepth 100000 in
set_option maxHeartbeats 4000000 in
theorem step_died (h : Trio p o w gb fb wb ls ts lv tv m sv rv M nv kv qv) (hok : Ok m M B) (hB : B ≤ 10000000) (x : St) (hs : x.s.size ≤ 10000000) (hx : x.kind = 8) :
    Calls Tryz.prog 12 #[.pointer (some ⟨gb, 0, none⟩), x.val] w fun r w' => r = .returned (.bool true) ∧ After p o w gb fb wb ls ts lv tv (B + x.s.size + 1) w' := by
  obtain ⟨kind, a, s, ⟨ch, dyn, mn, mx, mr, tmo, bl⟩, t⟩ := x
  simp only at hx hs
  subst hx
  have hl : Hid (∀ w', Below w.heap.size w w' → Calls Tryz.prog 24 #[.pointer (some ⟨gb, 0, none⟩), .agg #[.int .i64 8, .int .i64 a, .string s, .int .i64 ch, .bool dyn, .int .i64 mn, .int .i64 mx, .int .i64 mr, .int .i64 tmo, .int .i64 bl, .int .i64 t]] w' fun r w'' => ∃ e, r = .returned (.tuple #[.int .i64 e, .int .i64 e]) ∧ After p o w gb fb wb ls ts lv tv (B + s.size + 1) w'') := fun w' hb => by
    refine (works_died (h.below hb) hok hB ⟨8, a, s, ⟨ch, dyn, mn, mx, mr, tmo, bl⟩, t⟩ hs rfl).mono ?_
    rintro r w'' ⟨e, h1, o', sv', rv', nv', kv', qv', m', M', h2, h3, h4⟩
    exact ⟨e, h1, o', sv', rv', nv', kv', qv', m', M', h2, h3, (FrX.of_below (p := p) h.f.clean hb).trans h4⟩
  simp only [St.val]
  generalize After p o w gb fb wb ls ts lv tv (B + s.size + 1) = A at *
  clear h hok hB hs
  have hb0 : Below w.heap.size w (w.alloc (.cells #[.int .i64 8, .int .i64 a, .string s, .int .i64 ch, .bool dyn, .int .i64 mn, .int .i64 mx, .int .i64 mr, .int .i64 tmo, .int .i64 bl, .int .i64 t] 33)) := (Below.refl _ _).alloc (Nat.le_refl _) _
  go_enter Tryz.func12, Tryz.ntmps12
  go_wp2_with fail
  refine (hl.out _ hb0).mono ?_
  rintro r w2 ⟨e, rfl, hA⟩
  go_wp2
  go_ret
  exact ⟨by simp, hA⟩

set_option maxRecDepth 100000 in
set_option maxHeartbeats 4000000 in
theorem step_none (h : Trio p o w gb fb wb ls ts lv tv m sv rv M nv kv qv) (hok : Ok m M B) (x : St) (hx : x.kind ≤ 1 ∨ 11 ≤ x.kind) :
    Calls Tryz.prog 12 #[.pointer (some ⟨gb, 0, none⟩), x.val] w fun r w' => r = .returned (.bool true) ∧ After p o w gb fb wb ls ts lv tv (B + x.s.size + 1) w' := by
  obtain ⟨kind, a, s, ⟨ch, dyn, mn, mx, mr, tmo, bl⟩, t⟩ := x
  simp only at hx
  simp only [St.val]
  have hb0 : Below w.heap.size w (w.alloc (.cells #[.int .i64 kind, .int .i64 a, .string s, .int .i64 ch, .bool dyn, .int .i64 mn, .int .i64 mx, .int .i64 mr, .int .i64 tmo, .int .i64 bl, .int .i64 t] 33)) := (Below.refl _ _).alloc (Nat.le_refl _) _
  have hA : Hid (After p o w gb fb wb ls ts lv tv (B + s.size + 1) (w.alloc (.cells #[.int .i64 kind, .int .i64 a, .string s, .int .i64 ch, .bool dyn, .int .i64 mn, .int .i64 mx, .int .i64 mr, .int .i64 tmo, .int .i64 bl, .int .i64 t] 33))) := ⟨o, sv, rv, nv, kv, qv, m, M, h.below hb0, hok.mono (by omega), FrX.of_below (p := p) h.f.clean hb0⟩
  generalize After p o w gb fb wb ls ts lv tv (B + s.size + 1) = A at *
  clear h hok hb0
  have n2 : (kind == 2) = false := by rw [beq_eq_false_iff_ne]; omega
  have n3 : (kind == 3) = false := by rw [beq_eq_false_iff_ne]; omega
  have n4 : (kind == 4) = false := by rw [beq_eq_false_iff_ne]; omega
  have n5 : (kind == 5) = false := by rw [beq_eq_false_iff_ne]; omega
  have n6 : (kind == 6) = false := by rw [beq_eq_false_iff_ne]; omega
  have n7 : (kind == 7) = false := by rw [beq_eq_false_iff_ne]; omega
  have n8 : (kind == 8) = false := by rw [beq_eq_false_iff_ne]; omega
  have n9 : (kind == 9) = false := by rw [beq_eq_false_iff_ne]; omega
  have n10 : (kind == 10) = false := by rw [beq_eq_false_iff_ne]; omega
  go_enter Tryz.func12, Tryz.ntmps12
  go_wp2
  go_ret
  exact ⟨rfl, hA.out⟩

/-- A step of a kind up to KDied. -/
theorem step_any (h : Trio p o w gb fb wb ls ts lv tv m sv rv M nv kv qv) (hok : Ok m M B) (hB : B ≤ 10000000) (x : St) (hs : x.s.size ≤ 10000000) (hx : x.kind ≤ 8) :
    Calls Tryz.prog 12 #[.pointer (some ⟨gb, 0, none⟩), x.val] w fun r w' => r = .returned (.bool true) ∧ After p o w gb fb wb ls ts lv tv (B + x.s.size + 1) w' := by
  by_cases h1 : x.kind ≤ 1
  · exact step_none h hok x (.inl h1)
  · have : x.kind = 2 ∨ x.kind = 3 ∨ x.kind = 4 ∨ x.kind = 5 ∨ x.kind = 6 ∨ x.kind = 7 ∨ x.kind = 8 := by omega
    rcases this with e | e | e | e | e | e | e
    · exact step_connect h hok hB x hs e
    · exact step_hangup h hok hB x hs e
    · exact step_feed h hok hB x hs e
    · exact step_spawned h hok hB x hs e
    · exact step_output h hok hB x hs e
    · exact step_finished h hok hB x hs e
    · exact step_died h hok hB x hs e
end
end Go.Proofs.YtlafkpaljibonaaGreat

namespace Go.Proofs.YtlafkpaljibonaaGreat
open Go.RowKit

/-- Is the slot's lease too old? -/
def PM.lateAt (m : PM) (k : Nat) : Bool := ((m.slot k).st == 3) && decide (m.set.tmo ≤ wrap64 (m.time - (m.slot k).since))
def PM.lateTo (m : PM) : Nat → PM
  | 0 => m
  | k + 1 => cond ((m.lateTo k).lateAt k) (((m.lateTo k).endKeyOf k 6).kill k) (m.lateTo k)

section
variable {m : PM} {R S : Nat}

theorem PM.fair_drop (h : ∀ j, j < 6 → m.fair j) (c i : Int) : ∀ j, j < 6 → (m.drop c i).fair j := by
  intro j hj
  unfold PM.drop
  cases m.slotOf c i with
  | none => exact h j hj
  | some a =>
    unfold PM.fair
    by_cases e : j = a
    · subst e; left; simp [PM.forgetAt, PSlot.forget]
    · simp only [PM.forgetAt, upd_other _ _ e]; exact h j hj

theorem PM.fair_endKeyOf (h : ∀ j, j < 6 → m.fair j) (k : Nat) (st : Int) : ∀ j, j < 6 → (m.endKeyOf k st).fair j := by
  unfold PM.endKeyOf
  cases ((m.slot k).conn != -1)
  · exact h
  · exact PM.fair_drop (m := m.sendB (m.slot k).conn.toNat (encB 3 (m.slot k).id (strOfNums [st]))) h _ _

theorem PM.fair_kill (h : ∀ j, j < 6 → m.fair j) (k : Nat) : ∀ j, j < 6 → (m.kill k).fair j := by
  intro j hj
  unfold PM.fair
  by_cases e : j = k
  · subst e; left; simp [PM.kill, PM.becomesAt, PSlot.becomes]
  · simp only [PM.kill, PM.becomesAt, upd_other _ _ e]; exact h j hj

theorem PM.small.endKeyOf (h : m.small R S) (k : Nat) (st : Int) : (m.endKeyOf k st).small R (S + 208) := by
  unfold PM.endKeyOf
  cases ((m.slot k).conn != -1)
  · exact h.mono (Nat.le_refl _) (by omega)
  · exact h.endKey _ _ _

theorem PM.small.kill (h : m.small R S) (k : Nat) : (m.kill k).small R S := h.of_eq rfl rfl

theorem PM.endKeyOf_set (m : PM) (k : Nat) (st : Int) : (m.endKeyOf k st).set = m.set ∧ (m.endKeyOf k st).time = m.time := by
  unfold PM.endKeyOf PM.endKey PM.drop
  cases ((m.slot k).conn != -1)
  · exact ⟨rfl, rfl⟩
  · simp only [cond_true]
    cases (m.sendB (m.slot k).conn.toNat (encB 3 (m.slot k).id (strOfNums [st]))).slotOf ((m.slot k).conn.toNat : Nat) (m.slot k).id <;> exact ⟨rfl, rfl⟩

theorem PM.lateTo_kept (hs : m.small R S) (hf : ∀ j, j < 6 → m.fair j) : ∀ k, (∀ j, j < 6 → (m.lateTo k).fair j) ∧ (m.lateTo k).small R (S + 208 * k) ∧ (m.lateTo k).set = m.set ∧ (m.lateTo k).time = m.time
  | 0 => ⟨hf, hs, rfl, rfl⟩
  | k + 1 => by
    obtain ⟨a1, a2, a3, a4⟩ := PM.lateTo_kept hs hf k
    unfold PM.lateTo
    cases (m.lateTo k).lateAt k
    · exact ⟨a1, a2.mono (Nat.le_refl _) (by omega), a3, a4⟩
    · obtain ⟨e1, e2⟩ := (m.lateTo k).endKeyOf_set k 6
      exact ⟨PM.fair_kill (PM.fair_endKeyOf a1 k 6) k, ((a2.endKeyOf k 6).kill k).mono (Nat.le_refl _) (by omega), e1.trans a3, e2.trans a4⟩
end

section
variable {o : Nat → Tag} {q : Nat} {w : World} {b : Nat} {m : PM} {sv : Nat → Value} {rv : Value}

theorem FMem.tmoc (h : FMem o q w b m sv rv) : w.cell? ⟨b, 5, none⟩ = some (.int .i64 m.set.tmo) := h.blk.cell rfl
theorem FMem.mnc (h : FMem o q w b m sv rv) : w.cell? ⟨b, 2, none⟩ = some (.int .i64 m.set.mn) := h.blk.cell rfl
theorem FMem.mxc (h : FMem o q w b m sv rv) : w.cell? ⟨b, 3, none⟩ = some (.int .i64 m.set.mx) := h.blk.cell rfl

set_option maxRecDepth 100000 in
set_option maxHeartbeats 4000000 in
theorem killLate_any (h : FMem o q w b m sv rv) (hq : q ≠ 0) {R S : Nat} (hsm : m.small R S) (hR : R ≤ 1000000000000) (hS : S ≤ 100000000000) (hf : ∀ k, k < 6 → m.fair k) :
    Calls Tryz.prog 57 #[.pointer (some ⟨b, 0, none⟩)] w fun r w' => r = .returned (.tuple #[]) ∧ ∃ o' sv' rv', FMem o' q w' b (m.lateTo 6) sv' rv' ∧ Fr q o w o' w' := by
  have hkept := PM.lateTo_kept hsm hf
  go_enter Tryz.func57, Tryz.ntmps57
  go_wp2
  go_loopw [4] (fun i w' => ∃ k : Nat, k ≤ 6 ∧ i = .int .i64 k ∧ ∃ o' sv' rv', FMem o' q w' b (m.lateTo k) sv' rv' ∧ Fr q o w o' w') (fun i _ => 6 - (intOf i).toNat)
  case atStart => exact ⟨0, by omega, rfl, o, sv, rv, h, Fr.refl h.clean⟩
  case round =>
    obtain ⟨k, hk, rfl, o1, sv1, rv1, hm, hfr⟩ := hrel
    clear h
    by_cases hlt : k < 6
    · have hkI : (k : Int) < 6 := by omega
      have HS : Hid (m.lateTo (k + 1) = cond ((m.lateTo k).lateAt k) (((m.lateTo k).endKeyOf k 6).kill k) (m.lateTo k)) := rfl
      obtain ⟨hf1, hs1, -, -⟩ := hkept k
      have hsn : ∀ c, c < 4 → ((m.lateTo k).con c).sent.length ≤ 1000000000000 := fun c hc => by have := hs1.sent c hc; omega
      have hrn : (m.lateTo k).req.length ≤ 1000000000000 := by have := hs1.req; omega
      clear hkept hs1
      generalize m.lateTo k = M at *
      obtain ⟨c0, c1, c2, c3, c4, c5, -⟩ := hm.slotc hlt
      have hb0 : ∀ ob, Below wr.heap.size wr (wr.alloc ob) := fun ob => (Below.refl _ _).alloc (Nat.le_refl _) ob
      have hT := fun ob => (hm.below (hb0 ob)).timec
      have hO := fun ob => (hm.below (hb0 ob)).tmoc
      have x0 := Blk.made wr 59 [.int .i64 (M.slot k).st, .bool (M.slot k).old, .int .i64 (M.slot k).served, .int .i64 (M.slot k).since, .int .i64 (M.slot k).conn, .int .i64 (M.slot k).id]
      have ke : Hid (∀ w', FMem o1 q w' b M sv1 rv1 → Calls Tryz.prog 91 #[.pointer (some ⟨b, 0, none⟩), .int .i64 (k : Nat), .int .i64 6] w' fun r w'' => r = .returned (.tuple #[]) ∧ ∃ o' sv' rv', FMem o' q w'' b (M.endKeyOf k 6) sv' rv' ∧ Fr q o1 w' o' w'') := fun w' h' => endKeyOf_any h' hq k hlt (hf1 k hlt) 6 (by omega) (by omega) hsn hrn
      unfold PM.lateAt at HS
      generalize M.endKeyOf k 6 = E at *
      have hmA := fun ob => hm.below (hb0 ob)
      have frA := fun ob => hfr.below (hb0 ob)
      generalize (M.slot k).st = s0 at *
      generalize (M.slot k).old = old at *
      generalize (M.slot k).served = srv at *
      generalize (M.slot k).since = snc at *
      generalize (M.slot k).conn = cn at *
      generalize (M.slot k).id = id at *
      have y0 := x0.cell (k := 0) (u := .int .i64 s0) rfl
      have y3 := x0.cell (k := 3) (u := .int .i64 snc) rfl
      by_cases h3 : s0 = 3
      · subst h3
        by_cases h5 : M.set.tmo ≤ wrap64 (M.time - snc)
        · have g5 : decide (M.set.tmo ≤ wrap64 (M.time - snc)) = true := by simpa using h5
          have g5' : decide (wrap64 (M.time - snc) ≥ M.set.tmo) = true := g5
          have HS2 : Hid (m.lateTo (k + 1) = E.kill k) := by show _ = _; rw [HS.out, g5]; rfl
          clear HS
          go_wp2_with fail
          go_quiet (fail)
          have hmq := hm.below (below_dN (m := nq) (hb0 (.cells #[.int .i64 3, .bool old, .int .i64 srv, .int .i64 snc, .int .i64 cn, .int .i64 id] 59)))
          have frq := hfr.below (below_dN (m := nq) (hb0 (.cells #[.int .i64 3, .bool old, .int .i64 srv, .int .i64 snc, .int .i64 cn, .int .i64 id] 59)))
          go_wp2_with fail
          refine (ke.out _ hmq).mono ?_
          rintro e w5 ⟨rfl, o5, sv5, rv5, hm5, fr5⟩
          clear c0 c1 c2 c3 c4 c5 hT hO y0 y3
          go_wp2_with fail
          refine (kill_any hm5 k hlt).mono ?_
          rintro e w6 ⟨rfl, hm6, fr6⟩
          go_wp2
          exact ⟨⟨k + 1, by omega, by go_num, o5, sv5, rv5, by rw [HS2.out]; exact hm6, (frq.trans fr5).trans fr6⟩, by simp [intOf]; omega⟩
        · have g5 : decide (M.set.tmo ≤ wrap64 (M.time - snc)) = false := by simpa using h5
          have g5' : decide (wrap64 (M.time - snc) ≥ M.set.tmo) = false := g5
          have HS2 : Hid (m.lateTo (k + 1) = M) := by show _ = _; rw [HS.out, g5]; rfl
          clear HS
          go_wp2_with fail
          go_quiet (fail)
          go_wp2
          exact ⟨⟨k + 1, by omega, by go_num, o1, sv1, rv1, by rw [HS2.out]; exact hm.below (below_dN (hb0 _)), hfr.below (below_dN (hb0 _))⟩, by simp [intOf]; omega⟩
      · have g3 : (s0 == 3) = false := by simpa using h3
        have HS2 : Hid (m.lateTo (k + 1) = M) := by show _ = _; rw [HS.out, g3]; rfl
        clear HS
        go_wp2_with fail
        go_quiet (fail)
        go_wp2
        exact ⟨⟨k + 1, by omega, by go_num, o1, sv1, rv1, by rw [HS2.out]; exact hm.below (below_dN (hb0 _)), hfr.below (below_dN (hb0 _))⟩, by simp [intOf]; omega⟩
    · have : k = 6 := by omega
      subst this
      go_wp2
      exact bodyPost_end (v := .tuple #[]) (by simp [results, Tryz.results57, go_sem]) rfl ⟨rfl, o1, sv1, rv1, hm, hfr⟩

end
end Go.Proofs.YtlafkpaljibonaaGreat

namespace Go.Proofs.YtlafkpaljibonaaGreat
open Go.RowKit

/-- Idle, or Starting without being Old. -/
def freshS (st : Int) (old : Bool) : Bool := (st == 2) || ((st == 1) && !old)
def PM.freshTo (m : PM) : Nat → Int
  | 0 => 0
  | k + 1 => m.freshTo k + (if freshS (m.slot k).st (m.slot k).old then 1 else 0)

theorem PM.freshTo_bd (m : PM) (k : Nat) : 0 ≤ m.freshTo k ∧ m.freshTo k ≤ k := by
  induction k with
  | zero => simp [PM.freshTo]
  | succ k ih => simp only [PM.freshTo]; split <;> omega

/-- The last that is Idle. -/
def PM.lastTo (m : PM) : Nat → Option Nat
  | 0 => none
  | k + 1 => cond ((m.slot k).st == 2) (some k) (m.lastTo k)
def PM.killLast (m : PM) : PM := m.killAt (m.lastTo 6)

theorem PM.lastTo_lt (m : PM) : ∀ {k a : Nat}, m.lastTo k = some a → a < k
  | 0, _, h => by simp [PM.lastTo] at h
  | k + 1, a, h => by
    unfold PM.lastTo at h
    cases e : ((m.slot k).st == 2)
    · rw [e] at h
      have := PM.lastTo_lt m h
      omega
    · rw [e] at h
      simp only [cond_true, Option.some.injEq] at h
      omega

def PM.spares (m : PM) : PM := cond (decide (m.freshTo 6 < m.set.mn) && decide (m.usedTo 6 < m.set.ch)) m.startOne (cond (decide (m.set.mx < m.inTo 2 6)) m.killLast m)

section
variable {o : Nat → Tag} {q : Nat} {w : World} {b : Nat} {m : PM} {sv : Nat → Value} {rv : Value}

set_option maxRecDepth 100000 in
set_option maxHeartbeats 4000000 in
theorem spare_any (h : FMem o q w b m sv rv) :
    Calls Tryz.prog 94 #[.pointer (some ⟨b, 0, none⟩)] w fun r w' => r = .returned (.int .i64 (m.freshTo 6)) ∧ Below w.heap.size w w' := by
  have hl := slots_range h
  have hn := slots_info m
  have hi := index_slots m
  generalize slotsCells m = SC at *
  simp only [PSlot.cells] at hi
  go_enter Tryz.func94, Tryz.ntmps94
  go_wp2_with (refine wpList_load_mid rfl 62 (.tmp 9) rfl b 21 rfl SC _ hl Tryz.underlying62 rfl hn ?_)
  go_loopw [3, 11] (fun c i w' => ∃ k : Nat, k ≤ 6 ∧ c = .int .i64 (m.freshTo k) ∧ i = .int .i64 k ∧ Below w.heap.size w w') (fun _ i _ => 6 - (intOf i).toNat)
  case atStart => exact ⟨0, by omega, rfl, rfl, Below.refl _ _⟩
  case round =>
    obtain ⟨k, hk, rfl, rfl, hb⟩ := hrel
    by_cases hlt : k < 6
    · have hik := hi k hlt
      clear hi hl hn
      have hbd := m.freshTo_bd k
      have HF : Hid (m.freshTo (k + 1) = m.freshTo k + (if freshS (m.slot k).st (m.slot k).old then 1 else 0)) := rfl
      have hbA : ∀ x y, Below w.heap.size w ((wr.alloc x).alloc y) := fun x y => (hb.alloc hb.size x).alloc (by have := hb.size; simp; omega) y
      generalize (m.slot k).st = s0 at *
      generalize (m.slot k).old = old at *
      generalize (m.slot k).served = srv at *
      generalize (m.slot k).since = snc at *
      generalize (m.slot k).conn = cn at *
      generalize (m.slot k).id = id at *
      generalize (m.slot k).job = jb at *
      by_cases h2 : s0 = 2
      · subst h2
        have HF2 : Hid (m.freshTo (k + 1) = m.freshTo k + 1) := HF.out
        clear HF
        go_wp2
        exact ⟨⟨k + 1, by omega, by rw [HF2.out], by go_num, hbA _ _⟩, by simp [intOf]; omega⟩
      · have g2 : (s0 == 2) = false := by simpa using h2
        by_cases h1 : s0 = 1
        · subst h1
          cases old
          · have HF2 : Hid (m.freshTo (k + 1) = m.freshTo k + 1) := HF.out
            clear HF
            go_wp2
            exact ⟨⟨k + 1, by omega, by rw [HF2.out], by go_num, hbA _ _⟩, by simp [intOf]; omega⟩
          · have HF2 : Hid (m.freshTo (k + 1) = m.freshTo k + 0) := HF.out
            clear HF
            go_wp2
            exact ⟨⟨k + 1, by omega, by rw [HF2.out, Int.add_zero], by go_num, hbA _ _⟩, by simp [intOf]; omega⟩
        · have g1 : (s0 == 1) = false := by simpa using h1
          have HF2 : Hid (m.freshTo (k + 1) = m.freshTo k) := by
            show _ = _
            rw [HF.out]
            unfold freshS
            rw [g2, g1]
            simp
          clear HF
          go_wp2
          exact ⟨⟨k + 1, by omega, by rw [HF2.out], by go_num, hbA _ _⟩, by simp [intOf]; omega⟩
    · have : k = 6 := by omega
      subst this
      go_wp2
      go_ret
      exact ⟨rfl, hb⟩

set_option maxRecDepth 100000 in
set_option maxHeartbeats 2000000 in
theorem killLastIdle_any (h : FMem o q w b m sv rv) :
    Calls Tryz.prog 97 #[.pointer (some ⟨b, 0, none⟩)] w fun r w' => r = .returned (.tuple #[]) ∧ FMem o q w' b m.killLast sv rv ∧ Fr q o w o w' := by
  unfold PM.killLast
  go_enter Tryz.func97, Tryz.ntmps97
  go_wp2
  go_loopw [2] (fun i w' => ∃ k : Nat, k ≤ 6 ∧ i = .int .i64 ((k : Int) - 1) ∧ m.lastTo 6 = m.lastTo k ∧ w' = w) (fun i _ => (intOf i + 1).toNat)
  case atStart => exact ⟨6, by omega, rfl, rfl, rfl⟩
  case round =>
    obtain ⟨k, hk, rfl, he, hw⟩ := hrel
    subst hw
    have HE : Hid _ := he
    clear he
    cases k with
    | zero =>
      rw [show (((0 : Nat) : Int) - 1) = -1 from rfl]
      go_wp2
      exact bodyPost_end (v := .tuple #[]) (by simp [results, Tryz.results97, go_sem]) rfl ⟨rfl, by rw [HE.out]; exact h, Fr.refl h.clean⟩
    | succ k =>
      have hlt : k < 6 := by omega
      have hkI : (k : Int) < 6 := by omega
      rw [show (((k + 1 : Nat) : Int) - 1) = (k : Int) from by omega]
      obtain ⟨c0, -⟩ := h.slotc hlt
      have HS : Hid (m.lastTo (k + 1) = cond ((m.slot k).st == 2) (some k) (m.lastTo k)) := rfl
      by_cases g2 : (m.slot k).st = 2
      · have HS2 : Hid (m.lastTo 6 = some k) := by show _ = _; rw [HE.out, HS.out, g2]; rfl
        clear HS HE
        rw [g2] at c0
        go_wp2_with fail
        refine (kill_any h k hlt).mono ?_
        rintro e w2 ⟨rfl, hm2, fr2⟩
        go_wp2
        exact bodyPost_ret (v := .tuple #[]) (by simp [results, Tryz.results97, go_sem]) rfl ⟨rfl, by rw [HS2.out]; exact hm2, fr2⟩
      · have g3 : ((m.slot k).st == 2) = false := by simpa using g2
        have HS2 : Hid (m.lastTo 6 = m.lastTo k) := by show _ = _; rw [HE.out, HS.out, g3]; rfl
        clear HS HE
        go_wp2
        exact ⟨⟨k, by omega, by go_num, HS2.out, by first | rfl | trivial⟩, by simp [intOf]⟩

set_option maxRecDepth 100000 in
set_option maxHeartbeats 4000000 in
theorem keepSpares_any (h : FMem o q w b m sv rv) :
    Calls Tryz.prog 58 #[.pointer (some ⟨b, 0, none⟩)] w fun r w' => r = .returned (.tuple #[]) ∧ FMem o q w' b m.spares sv rv ∧ Fr q o w o w' := by
  have ku : Hid (∀ w', FMem o q w' b m sv rv → Calls Tryz.prog 93 #[.pointer (some ⟨b, 0, none⟩)] w' fun r w'' => r = .returned (.int .i64 (m.usedTo 6)) ∧ Below w'.heap.size w' w'') := fun w' h' => used_any h'
  have ks : Hid (∀ w', FMem o q w' b m sv rv → Calls Tryz.prog 94 #[.pointer (some ⟨b, 0, none⟩)] w' fun r w'' => r = .returned (.int .i64 (m.freshTo 6)) ∧ Below w'.heap.size w' w'') := fun w' h' => spare_any h'
  have kc : Hid (∀ w', FMem o q w' b m sv rv → Calls Tryz.prog 96 #[.pointer (some ⟨b, 0, none⟩), .int .i64 2] w' fun r w'' => r = .returned (.int .i64 (m.inTo 2 6)) ∧ Below w'.heap.size w' w'') := fun w' h' => inState_any h' 2
  have HS : Hid (m.spares = cond (decide (m.freshTo 6 < m.set.mn) && decide (m.usedTo 6 < m.set.ch)) m.startOne (cond (decide (m.set.mx < m.inTo 2 6)) m.killLast m)) := rfl
  generalize m.usedTo 6 = u at *
  generalize m.freshTo 6 = f at *
  generalize m.inTo 2 6 = i at *
  generalize m.spares = R at *
  by_cases h1 : f < m.set.mn
  · have g1 : decide (f < m.set.mn) = true := by simpa using h1
    by_cases h2 : u < m.set.ch
    · have g2 : decide (u < m.set.ch) = true := by simpa using h2
      have HS2 : Hid (R = m.startOne) := by show _ = _; rw [HS.out, g1, g2]; rfl
      clear HS
      go_enter Tryz.func58, Tryz.ntmps58
      go_wp2_with fail
      refine (ku.out _ h).mono ?_
      rintro e w1 ⟨rfl, hb1⟩
      have hm1 := h.below hb1
      go_wp2_with fail
      refine (ks.out _ hm1).mono ?_
      rintro e w2 ⟨rfl, hb2⟩
      have hm2 := hm1.below hb2
      have c0 := hm2.chc
      have c2 := hm2.mnc
      have hmq := hm2
      have frq := (Fr.of_below (q := q) h.clean hb1).below hb2
      go_wp2_with fail
      refine (startOne_any hmq).mono ?_
      rintro e w3 ⟨rfl, hm3, fr3⟩
      go_wp2
      exact bodyPost_ret (v := .tuple #[]) (by simp [results, Tryz.results58, go_sem]) rfl ⟨rfl, by rw [HS2.out]; exact hm3, frq.trans fr3⟩
    · have g2 : decide (u < m.set.ch) = false := by simpa using h2
      have HS2 : Hid (R = cond (decide (m.set.mx < i)) m.killLast m) := by show _ = _; rw [HS.out, g1, g2]; rfl
      clear HS
      go_enter Tryz.func58, Tryz.ntmps58
      go_wp2_with fail
      refine (ku.out _ h).mono ?_
      rintro e w1 ⟨rfl, hb1⟩
      have hm1 := h.below hb1
      go_wp2_with fail
      refine (ks.out _ hm1).mono ?_
      rintro e w2 ⟨rfl, hb2⟩
      have hm2 := hm1.below hb2
      have c0 := hm2.chc
      have c2 := hm2.mnc
      have hmq := hm2
      have frq := (Fr.of_below (q := q) h.clean hb1).below hb2
      go_wp2_with fail
      refine (kc.out _ hmq).mono ?_
      rintro e w3 ⟨rfl, hb3⟩
      have hm3 := hmq.below hb3
      have c3 := hm3.mxc
      by_cases h3 : m.set.mx < i
      · have g3 : decide (m.set.mx < i) = true := by simpa using h3
        rw [g3] at HS2
        go_wp2_with fail
        refine (killLastIdle_any hm3).mono ?_
        rintro e w4 ⟨rfl, hm4, fr4⟩
        go_wp2
        exact bodyPost_end (v := .tuple #[]) (by simp [results, Tryz.results58, go_sem]) rfl ⟨rfl, by rw [HS2.out]; exact hm4, (frq.below hb3).trans fr4⟩
      · have g3 : decide (m.set.mx < i) = false := by simpa using h3
        rw [g3] at HS2
        go_wp2
        exact bodyPost_end (v := .tuple #[]) (by simp [results, Tryz.results58, go_sem]) rfl ⟨rfl, by rw [HS2.out]; exact hm3, frq.below hb3⟩
  · have g1 : decide (f < m.set.mn) = false := by simpa using h1
    have HS2 : Hid (R = cond (decide (m.set.mx < i)) m.killLast m) := by show _ = _; rw [HS.out, g1]; rfl
    clear HS
    go_enter Tryz.func58, Tryz.ntmps58
    go_wp2_with fail
    refine (ku.out _ h).mono ?_
    rintro e w1 ⟨rfl, hb1⟩
    have hm1 := h.below hb1
    go_wp2_with fail
    refine (ks.out _ hm1).mono ?_
    rintro e w2 ⟨rfl, hb2⟩
    have hm2 := hm1.below hb2
    have c0 := hm2.chc
    have c2 := hm2.mnc
    have hmq := hm2
    have frq := (Fr.of_below (q := q) h.clean hb1).below hb2
    go_wp2_with fail
    refine (kc.out _ hmq).mono ?_
    rintro e w3 ⟨rfl, hb3⟩
    have hm3 := hmq.below hb3
    have c3 := hm3.mxc
    by_cases h3 : m.set.mx < i
    · have g3 : decide (m.set.mx < i) = true := by simpa using h3
      rw [g3] at HS2
      go_wp2_with fail
      refine (killLastIdle_any hm3).mono ?_
      rintro e w4 ⟨rfl, hm4, fr4⟩
      go_wp2
      exact bodyPost_end (v := .tuple #[]) (by simp [results, Tryz.results58, go_sem]) rfl ⟨rfl, by rw [HS2.out]; exact hm4, (frq.below hb3).trans fr4⟩
    · have g3 : decide (m.set.mx < i) = false := by simpa using h3
      rw [g3] at HS2
      go_wp2
      exact bodyPost_end (v := .tuple #[]) (by simp [results, Tryz.results58, go_sem]) rfl ⟨rfl, by rw [HS2.out]; exact hm3, frq.below hb3⟩
end
end Go.Proofs.YtlafkpaljibonaaGreat

namespace Go.Proofs.YtlafkpaljibonaaGreat
open Go.RowKit

def PM.ticked (m : PM) : PM := { m with time := wrap64 (m.time + 1) }
def PM.late (m : PM) : PM := cond (decide (0 < m.set.tmo)) (m.lateTo 6) m
def PM.tickS (m : PM) : PM := cond m.set.dyn m.ticked.late.spares m.ticked.late
def PM.tick (m : PM) : PM := m.tickS.settle

def PM.oldAt (m : PM) (k : Nat) : PM := { m with slot := upd m.slot k { m.slot k with old := true } }
def PM.agesAt (m : PM) (k : Nat) : PM := cond ((m.slot k).st == 2) (m.kill k) (cond ((m.slot k).st == 1 || (m.slot k).st == 3) (m.oldAt k) m)
def PM.agesTo (m : PM) : Nat → PM
  | 0 => m
  | k + 1 => (m.agesTo k).agesAt k
def PM.withSet (m : PM) (c : Cfg) : PM := { m with set := c }
def PM.reload (m : PM) (c : Cfg) : PM := ((m.withSet c).agesTo 6).settle
def PM.afterReload (m : PM) (c : Cfg) : PM := cond c.ok (m.reload c) m
def reloadC (c : Cfg) : Int := cond c.ok 0 1

section
variable {o : Nat → Tag} {q : Nat} {w : World} {b : Nat} {m : PM} {sv : Nat → Value} {rv : Value}

theorem fcells_time (m : PM) (sv : Nat → Value) (rv : Value) (x : Int) : (fcells m sv rv).set 7 (.int .i64 x) = fcells { m with time := x } sv rv := rfl
theorem FMem.setTime (h : FMem o q w b m sv rv) (x : Int) :
    FMem o q (w.setCell ⟨b, 7, none⟩ (.int .i64 x)) b { m with time := x } sv rv ∧ Fr q o w o (w.setCell ⟨b, 7, none⟩ (.int .i64 x)) := by
  have hoth : ∀ g, g ≠ b → (w.setCell ⟨b, 7, none⟩ (.int .i64 x)).heap[g]? = w.heap[g]? := fun g hg => Below.heap_setCell _ _ _ g hg
  have hbk := h.blk.set 7 (.int .i64 x)
  rw [fcells_time m sv rv x] at hbk
  have hm := h.put hbk (by simp [World.setCell]) hoth (fun _ _ => rfl) rfl
  exact ⟨hm, h.fr_put hm (by simp [World.setCell]) (by simp [World.setCell]) (by simp [World.setCell]) (by simp [World.setCell]) hoth⟩

set_option maxRecDepth 100000 in
set_option maxHeartbeats 4000000 in
theorem tick_any (h : FMem o q w b m sv rv) (hq : q ≠ 0) {R S : Nat} (hsm : m.small R S) (hR : R ≤ 1000000000000) (hS : S ≤ 100000000000) (hf : ∀ k, k < 6 → m.fair k) :
    Calls Tryz.prog 25 #[.pointer (some ⟨b, 0, none⟩)] w fun r w' => r = .returned (.tuple #[]) ∧ ∃ o' sv' rv', FMem o' q w' b m.tick sv' rv' ∧ Fr q o w o' w' := by
  have ct := h.timec
  have fz := h.frozen
  obtain ⟨hmT, frT⟩ := h.setTime (wrap64 (m.time + 1))
  have hwr : IntKind.i64.wrap (m.time + 1) = wrap64 (m.time + 1) := IntWalk.i64_left _
  have kk : Hid (∀ w', FMem o q w' b m.ticked sv rv → Calls Tryz.prog 57 #[.pointer (some ⟨b, 0, none⟩)] w' fun r w'' => r = .returned (.tuple #[]) ∧ ∃ o' sv' rv', FMem o' q w'' b (m.ticked.lateTo 6) sv' rv' ∧ Fr q o w' o' w'') := fun w' h' => killLate_any h' hq (m := m.ticked) (hsm.of_eq rfl rfl) hR hS hf
  have hkept := PM.lateTo_kept (m := m.ticked) (hsm.of_eq rfl rfl) hf 6
  have hT : Hid (m.tick = m.tickS.settle) := rfl
  have hTS : Hid (m.tickS = cond m.set.dyn m.ticked.late.spares m.ticked.late) := rfl
  have hL : Hid (m.ticked.late = cond (decide (0 < m.set.tmo)) (m.ticked.lateTo 6) m.ticked) := rfl
  have hset : m.ticked.set = m.set := rfl
  have hmT' : FMem o q (w.setCell ⟨b, 7, none⟩ (.int .i64 (wrap64 (m.time + 1)))) b m.ticked sv rv := hmT
  clear hmT
  -- behind the late ones
  have rest : Hid (∀ o1 sv1 rv1 w1, FMem o1 q w1 b m.ticked.late sv1 rv1 → m.ticked.late.set = m.set) := fun o1 sv1 rv1 w1 _ => by
    rw [hL.out]
    cases decide (0 < m.set.tmo)
    · rfl
    · exact hkept.2.2.1
  by_cases h0 : 0 < m.set.tmo
  · have g0 : decide (0 < m.set.tmo) = true := by simpa using h0
    have g0' : decide (m.set.tmo > 0) = true := g0
    rw [g0, cond_true] at hL
    rw [hL.out] at rest hTS
    have c5 := hmT'.tmoc
    rw [hset] at c5
    go_enter Tryz.func25, Tryz.ntmps25
    go_wp2_with fail
    refine (kk.out _ hmT').mono ?_
    rintro e w1 ⟨rfl, o1, sv1, rv1, hm1, fr1⟩
    have hs1 := rest.out _ _ _ _ hm1
    have cd := hm1.dync
    rw [hs1] at cd
    clear ct fz c5 kk hkept rest
    generalize m.ticked.lateTo 6 = M at *
    cases hd : m.set.dyn
    · rw [hd] at cd hTS
      rw [hTS.out, cond_false] at hT
      go_wp2_with fail
      refine (settle_any hm1).mono ?_
      rintro e w2 ⟨rfl, hm2, fr2⟩
      go_wp2
      exact bodyPost_end (v := .tuple #[]) (by simp [results, Tryz.results25, go_sem]) rfl ⟨rfl, o1, sv1, rv1, by rw [hT.out]; exact hm2, (frT.trans fr1).trans fr2⟩
    · rw [hd] at cd hTS
      rw [hTS.out, cond_true] at hT
      go_wp2_with fail
      refine (keepSpares_any hm1).mono ?_
      rintro e w2 ⟨rfl, hm2, fr2⟩
      clear cd
      go_wp2_with fail
      refine (settle_any hm2).mono ?_
      rintro e w3 ⟨rfl, hm3, fr3⟩
      go_wp2
      exact bodyPost_end (v := .tuple #[]) (by simp [results, Tryz.results25, go_sem]) rfl ⟨rfl, o1, sv1, rv1, by rw [hT.out]; exact hm3, ((frT.trans fr1).trans fr2).trans fr3⟩
  · have g0 : decide (0 < m.set.tmo) = false := by simpa using h0
    have g0' : decide (m.set.tmo > 0) = false := g0
    rw [g0, cond_false] at hL
    rw [hL.out] at rest hTS
    have c5 := hmT'.tmoc
    have cd := hmT'.dync
    rw [hset] at c5 cd
    clear kk hkept rest
    generalize m.ticked = M at *
    cases hd : m.set.dyn
    · rw [hd] at cd hTS
      rw [hTS.out, cond_false] at hT
      go_enter Tryz.func25, Tryz.ntmps25
      go_wp2_with fail
      refine (settle_any hmT').mono ?_
      rintro e w2 ⟨rfl, hm2, fr2⟩
      clear ct fz c5 cd
      go_wp2
      exact bodyPost_end (v := .tuple #[]) (by simp [results, Tryz.results25, go_sem]) rfl ⟨rfl, o, sv, rv, by rw [hT.out]; exact hm2, frT.trans fr2⟩
    · rw [hd] at cd hTS
      rw [hTS.out, cond_true] at hT
      go_enter Tryz.func25, Tryz.ntmps25
      go_wp2_with fail
      refine (keepSpares_any hmT').mono ?_
      rintro e w2 ⟨rfl, hm2, fr2⟩
      clear ct fz c5 cd
      go_wp2_with fail
      refine (settle_any hm2).mono ?_
      rintro e w3 ⟨rfl, hm3, fr3⟩
      go_wp2
      exact bodyPost_end (v := .tuple #[]) (by simp [results, Tryz.results25, go_sem]) rfl ⟨rfl, o, sv, rv, by rw [hT.out]; exact hm3, (frT.trans fr2).trans fr3⟩

theorem fcells_old (m : PM) (sv : Nat → Value) (rv : Value) (k : Nat) (hk : k < 6) : (fcells m sv rv).set (21 + k * 7 + 1) (.bool true) = fcells (m.oldAt k) sv rv := by
  rcases k with _ | _ | _ | _ | _ | _ | k <;> first | rfl | omega

theorem FMem.setOld (h : FMem o q w b m sv rv) {k : Nat} (hk : k < 6) :
    FMem o q (w.setCell ⟨b, 21 + k * 7 + 1, none⟩ (.bool true)) b (m.oldAt k) sv rv ∧ Fr q o w o (w.setCell ⟨b, 21 + k * 7 + 1, none⟩ (.bool true)) := by
  have hoth : ∀ g, g ≠ b → (w.setCell ⟨b, 21 + k * 7 + 1, none⟩ (.bool true)).heap[g]? = w.heap[g]? := fun g hg => Below.heap_setCell _ _ _ g hg
  have hbk := h.blk.set (21 + k * 7 + 1) (.bool true)
  rw [fcells_old m sv rv k hk] at hbk
  have hm := h.put hbk (by simp [World.setCell]) hoth (fun _ _ => rfl) rfl
  exact ⟨hm, h.fr_put hm (by simp [World.setCell]) (by simp [World.setCell]) (by simp [World.setCell]) (by simp [World.setCell]) hoth⟩

set_option maxRecDepth 100000 in
set_option maxHeartbeats 4000000 in
theorem retireAll_any (h : FMem o q w b m sv rv) :
    Calls Tryz.prog 63 #[.pointer (some ⟨b, 0, none⟩)] w fun r w' => r = .returned (.tuple #[]) ∧ FMem o q w' b (m.agesTo 6) sv rv ∧ Fr q o w o w' := by
  go_enter Tryz.func63, Tryz.ntmps63
  go_wp2
  go_loopw [3] (fun i w' => ∃ k : Nat, k ≤ 6 ∧ i = .int .i64 k ∧ FMem o q w' b (m.agesTo k) sv rv ∧ Fr q o w o w') (fun i _ => 6 - (intOf i).toNat)
  case atStart => exact ⟨0, by omega, rfl, h, Fr.refl h.clean⟩
  case round =>
    obtain ⟨k, hk, rfl, hm, hfr⟩ := hrel
    clear h
    by_cases hlt : k < 6
    · have hkI : (k : Int) < 6 := by omega
      have HS : Hid (m.agesTo (k + 1) = (m.agesTo k).agesAt k) := rfl
      generalize m.agesTo k = M at *
      unfold PM.agesAt at HS
      obtain ⟨c0, c1, -⟩ := hm.slotc hlt
      have fz := hm.frozen
      by_cases h2 : (M.slot k).st = 2
      · have HS2 : Hid (m.agesTo (k + 1) = M.kill k) := by show _ = _; rw [HS.out, h2]; rfl
        rw [h2] at c0
        clear HS h2
        go_wp2_with fail
        refine (kill_any hm k hlt).mono ?_
        rintro e w3 ⟨rfl, hm3, fr3⟩
        clear c0 c1 fz
        go_wp2
        exact ⟨⟨k + 1, by omega, by go_num, by rw [HS2.out]; exact hm3, hfr.trans fr3⟩, by simp [intOf]; omega⟩
      · have h2' : ((M.slot k).st == 2) = false := by simpa using h2
        by_cases h1 : (M.slot k).st = 1
        · have HS2 : Hid (m.agesTo (k + 1) = M.oldAt k) := by show _ = _; rw [HS.out, h1]; rfl
          rw [h1] at c0
          obtain ⟨hm3, fr3⟩ := hm.setOld hlt
          clear HS h1 h2 h2'
          go_wp2
          exact ⟨⟨k + 1, by omega, by go_num, by rw [HS2.out]; exact hm3, hfr.trans fr3⟩, by simp [intOf]; omega⟩
        · have h1' : ((M.slot k).st == 1) = false := by simpa using h1
          by_cases h3 : (M.slot k).st = 3
          · have HS2 : Hid (m.agesTo (k + 1) = M.oldAt k) := by show _ = _; rw [HS.out, h3]; rfl
            rw [h3] at c0
            obtain ⟨hm3, fr3⟩ := hm.setOld hlt
            clear HS h1 h2 h2' h1' h3
            go_wp2
            exact ⟨⟨k + 1, by omega, by go_num, by rw [HS2.out]; exact hm3, hfr.trans fr3⟩, by simp [intOf]; omega⟩
          · have h3' : ((M.slot k).st == 3) = false := by simpa using h3
            have HS2 : Hid (m.agesTo (k + 1) = M) := by show _ = _; rw [HS.out, h2', h1', h3']; rfl
            clear HS
            go_wp2
            exact ⟨⟨k + 1, by omega, by go_num, by rw [HS2.out]; exact hm, hfr⟩, by simp [intOf]; omega⟩
    · have : k = 6 := by omega
      subst this
      go_wp2
      exact bodyPost_end (v := .tuple #[]) (by simp [results, Tryz.results63, go_sem]) rfl ⟨rfl, hm, hfr⟩

theorem fcells_set (m : PM) (sv : Nat → Value) (rv : Value) (c : Cfg) :
    (((((((fcells m sv rv).set 0 (.int .i64 c.ch)).set 1 (.bool c.dyn)).set 2 (.int .i64 c.mn)).set 3 (.int .i64 c.mx)).set 4 (.int .i64 c.mr)).set 5 (.int .i64 c.tmo)).set 6 (.int .i64 c.bl) = fcells (m.withSet c) sv rv := rfl

theorem FMem.setCfg (h : FMem o q w b m sv rv) (c : Cfg) (h6 : c.ch ≤ 6) :
    let w' := ((((((w.setCell ⟨b, 0, none⟩ (.int .i64 c.ch)).setCell ⟨b, 1, none⟩ (.bool c.dyn)).setCell ⟨b, 2, none⟩ (.int .i64 c.mn)).setCell ⟨b, 3, none⟩ (.int .i64 c.mx)).setCell ⟨b, 4, none⟩ (.int .i64 c.mr)).setCell ⟨b, 5, none⟩ (.int .i64 c.tmo)).setCell ⟨b, 6, none⟩ (.int .i64 c.bl)
    FMem o q w' b (m.withSet c) sv rv ∧ Fr q o w o w' := by
  intro w'
  have hoth : ∀ g, g ≠ b → w'.heap[g]? = w.heap[g]? := by
    intro g hg
    simp only [w']
    repeat rw [Below.heap_setCell _ _ _ g (by simpa using hg)]
  have hm : FMem o q w' b (m.withSet c) sv rv := by
    refine h.put ?_ (by simp [w', World.setCell]) hoth (fun _ _ => rfl) rfl h6
    rw [← fcells_set m sv rv c]
    exact ((((((h.blk.set _ _).set _ _).set _ _).set _ _).set _ _).set _ _).set _ _
  exact ⟨hm, h.fr_put hm (by simp [w', World.setCell]) (by simp [w', World.setCell]) (by simp [w', World.setCell]) (by simp [w', World.setCell]) hoth⟩

set_option maxRecDepth 100000 in
set_option maxHeartbeats 4000000 in
theorem reload_any (h : FMem o q w b m sv rv) (c : Cfg) :
    Calls Tryz.prog 27 #[.pointer (some ⟨b, 0, none⟩), c.val] w fun r w' => r = .returned (.int .i64 (reloadC c)) ∧ FMem o q w' b (m.afterReload c) sv rv ∧ Fr q o w o w' := by
  unfold PM.afterReload reloadC
  have kr : Hid (∀ w, Calls Tryz.prog 29 #[c.val] w fun r w' => r = .returned (.bool c.ok) ∧ Below w.heap.size w w') := fun w => mayBe_any c w
  have hb0 : Below w.heap.size w (w.alloc (.cells #[.int .i64 c.ch, .bool c.dyn, .int .i64 c.mn, .int .i64 c.mx, .int .i64 c.mr, .int .i64 c.tmo, .int .i64 c.bl] 23)) := (Below.refl _ _).alloc (Nat.le_refl _) _
  have x0 := Blk.made w 23 [.int .i64 c.ch, .bool c.dyn, .int .i64 c.mn, .int .i64 c.mx, .int .i64 c.mr, .int .i64 c.tmo, .int .i64 c.bl]
  cases hok : c.ok
  · rw [hok] at kr
    simp only [cond_false]
    unfold Cfg.val at *
    clear hok
    go_enter Tryz.func27, Tryz.ntmps27
    go_wp2_with fail
    refine (kr.out _).mono ?_
    rintro e w1 ⟨rfl, hb1⟩
    have hm1 := (h.below hb0).below hb1
    go_wp2
    go_ret
    exact ⟨rfl, hm1, (Fr.of_below (q := q) h.clean hb0).below hb1⟩
  · rw [hok] at kr
    have h6 : c.ch ≤ 6 := by simp only [Cfg.ok, Bool.and_eq_true, decide_eq_true_eq] at hok; omega
    simp only [cond_true]
    unfold Cfg.val at *
    unfold PM.reload
    clear hok
    go_enter Tryz.func27, Tryz.ntmps27
    go_wp2_with fail
    refine (kr.out _).mono ?_
    rintro e w1 ⟨rfl, hb1⟩
    have x1 := x0.below hb1
    have hm1 := (h.below hb0).below hb1
    have fr1 := (Fr.of_below (q := q) h.clean hb0).below hb1
    have y0 := x1.cell (k := 0) (u := .int .i64 c.ch) rfl
    have y1 := x1.cell (k := 1) (u := .bool c.dyn) rfl
    have y2 := x1.cell (k := 2) (u := .int .i64 c.mn) rfl
    have y3 := x1.cell (k := 3) (u := .int .i64 c.mx) rfl
    have y4 := x1.cell (k := 4) (u := .int .i64 c.mr) rfl
    have y5 := x1.cell (k := 5) (u := .int .i64 c.tmo) rfl
    have y6 := x1.cell (k := 6) (u := .int .i64 c.bl) rfl
    have z0 := hm1.chc
    have z1 := hm1.dync
    have z2 := hm1.mnc
    have z3 := hm1.mxc
    have z4 := hm1.mrc
    have z5 := hm1.tmoc
    have z6 := hm1.blc
    have fz := hm1.frozen
    have hp := hm1.setCfg c h6
    clear h x0 x1 hb0 hb1 kr
    go_wp2_with fail
    have hm2 := hp.1
    have fr2 := fr1.trans hp.2
    clear y0 y1 y2 y3 y4 y5 y6 z0 z1 z2 z3 z4 z5 z6 fz hp hm1 fr1
    refine (retireAll_any hm2).mono ?_
    rintro e w3 ⟨rfl, hm3, fr3⟩
    go_wp2_with fail
    refine (settle_any hm3).mono ?_
    rintro e w4 ⟨rfl, hm4, fr4⟩
    go_wp2
    go_ret
    exact ⟨rfl, hm4, (fr2.trans fr3).trans fr4⟩

end
end Go.Proofs.YtlafkpaljibonaaGreat
