import Derived.Test.YtmjnengplfoiiaaGreatJ17
import Derived.Test.YtmjnengplfoiiaaGreatJ16
namespace Go.Proofs.YtmjnengplfoiiaaGreat
open Go.RowKit

section
variable {o o' : Nat → Tag} {w w' : World} {gb fb wb : Nat} {ls ts : List Value} {lv tv : Value} {m : PM} {sv : Nat → Value} {rv : Value} {M : RM} {nv : Nat → Value} {kv qv : Value} {B : Nat}

set_option maxRecDepth 100000 in
set_option maxHeartbeats 4000000 in
theorem works_spawned (h : Trio o w gb fb wb ls ts lv tv m sv rv M nv kv qv) (hok : Ok m M B) (hB : B ≤ 10000000) (x : St) (hs : x.s.size ≤ 10000000) (hx : x.kind = 5) :
    Calls Tryz.prog 22 #[.pointer (some ⟨gb, 0, none⟩), x.val] w fun r w' => ∃ e, r = .returned (.tuple #[.int .i64 e, .int .i64 e]) ∧ ∃ o' sv' rv' nv' kv' qv' m' M', Trio o' w' gb fb wb ls ts lv tv m' sv' rv' M' nv' kv' qv' ∧ Ok m' M' (B + x.s.size + 1) ∧ FrX o w o' w' := by
  obtain ⟨kind, a, s, ⟨ch, dyn, mn, mx, mr, tmo, bl⟩, t⟩ := x
  simp only at hx hs
  subst hx
  simp only [St.val]
  have hsm := hok.small
  have _hB2 := hB
  have hsim := hok.sim
  have k1 : Hid (∀ w', FMem o 1 w' fb m sv rv → Calls Tryz.prog 47 #[.pointer (some ⟨fb, 0, none⟩), .int .i64 a] w' fun r w'' => r = .returned (.int .i64 (m.stE a 1)) ∧ ∃ o' sv' rv', FMem o' 1 w'' fb (m.afterSpawned a) sv' rv' ∧ Fr 1 o w' o' w'') := fun w' h' => by
    refine (spawned_any h' a).mono ?_
    rintro r w'' ⟨e, h1, h2⟩
    exact ⟨e, o, sv, rv, h1, h2⟩
  have k2 : Hid (∀ o' w', RMem o' 2 w' wb M nv kv qv → Calls Tryz.prog 48 #[.pointer (some ⟨wb, 0, none⟩), .int .i64 a] w' fun r w'' => r = .returned (.int .i64 (m.stE a 1)) ∧ ∃ o'' nv' kv' qv', RMem o'' 2 w'' wb (M.afterSpawned a) nv' kv' qv' ∧ Fr 2 o' w' o'' w'') := fun o' w' h' => by
    refine (rSpawned_any h' hok.good.wf (by have := hok.good.queue; omega) a).mono ?_
    rintro r w'' ⟨e, h1, h2⟩
    rw [stE_same hsim]
    exact ⟨e, o', nv, kv, qv, h1, h2⟩
  have hok' : Hid (Ok (m.afterSpawned a) (M.afterSpawned a) (B + s.size + 1)) := (hok.afterSpawned a).mono (by omega)
  clear hok hsm hsim hB hs _hB2
  generalize m.afterSpawned a = m' at *
  generalize M.afterSpawned a = M' at *
  generalize m.stE a 1 = E at *
  have hb0 : Below w.heap.size w (w.alloc (.cells #[.int .i64 5, .int .i64 a, .string s, .int .i64 ch, .bool dyn, .int .i64 mn, .int .i64 mx, .int .i64 mr, .int .i64 tmo, .int .i64 bl, .int .i64 t] 32)) := (Below.refl _ _).alloc (Nat.le_refl _) _
  have x0 := Blk.made w 32 [.int .i64 5, .int .i64 a, .string s, .int .i64 ch, .bool dyn, .int .i64 mn, .int .i64 mx, .int .i64 mr, .int .i64 tmo, .int .i64 bl, .int .i64 t]
  have hcl := h.f.clean _ (Nat.le_refl w.heap.size)
  go_enter Tryz.func22, Tryz.ntmps22
  go_wp2_with fail
  have x1 : Blk (w.alloc (.cells #[.int .i64 5, .int .i64 a, .string s, .int .i64 ch, .bool dyn, .int .i64 mn, .int .i64 mx, .int .i64 mr, .int .i64 tmo, .int .i64 bl, .int .i64 t] 32)) w.heap.size 32 [.int .i64 5, .int .i64 a, .string s, .int .i64 ch, .bool dyn, .int .i64 mn, .int .i64 mx, .int .i64 mr, .int .i64 tmo, .int .i64 bl, .int .i64 t] := x0
  have hT := h.below hb0
  have fx0 := FrX.of_below h.f.clean hb0
  clear x0 h
  generalize w.alloc (.cells #[.int .i64 5, .int .i64 a, .string s, .int .i64 ch, .bool dyn, .int .i64 mn, .int .i64 mx, .int .i64 mr, .int .i64 tmo, .int .i64 bl, .int .i64 t] 32) = w0 at *
  have c0 := hT.g.fc
  have y1 := x1.cell (k := 1) (u := .int .i64 a) rfl
  have hTd := hT.below (Below.refl _ _).drew
  have hlt0 : w.heap.size < w0.drew.heap.size := x1.lt
  go_region_held3 (fun w' => w'.cell? ⟨gb, 0, none⟩ = some (.pointer (some ⟨fb, 0, none⟩)) ∧ w'.cell? ⟨w.heap.size, 1, none⟩ = some (.int .i64 a)) (first | exact ⟨c0, y1⟩ | exact ⟨d0, z1⟩) (first | (go_at_call 47; refine (k1.out _ hTd.f).mono ?_; rintro e w2 ⟨rfl, o2, sv2, rv2, hf2, fr2⟩; have hg2 := hTd.g.fr fr2 (by omega); have hr2 := hTd.r.fr fr2 (by omega); have x2 : Blk w2 w.heap.size 32 _ := x1.keep (fr2.block _ x1.lt (by rw [hcl]; exact fun e => by cases e)); have d0 := hg2.fc; have z1 := x2.cell (k := 1) (u := .int .i64 a) rfl))
  have fx2 := (fx0.below (Below.refl _ _).drew).trans (fr2.toX (by omega))
  have d1 := hg2.wc
  clear c0 y1 hTd hT x1 k1 hb0
  go_wp2_with fail
  have hr2d := hr2.below (Below.refl _ _).drew
  go_region_held3 (fun w' => w'.cell? ⟨gb, 1, none⟩ = some (.pointer (some ⟨wb, 0, none⟩)) ∧ w'.cell? ⟨w.heap.size, 1, none⟩ = some (.int .i64 a)) (first | exact ⟨d1, z1⟩ | exact ⟨d3, z3⟩) (first | (go_at_call 13; refine (num_any _ _).mono ?_; rintro e w3 ⟨rfl, rfl⟩) | (go_at_call 48; refine (k2.out _ _ hr2d).mono ?_; rintro e w4 ⟨rfl, o4, nv4, kv4, qv4, hr4, fr4⟩; have hg4 := (hg2.below (Below.refl _ _).drew).fr fr4 (by omega); have hf4 := (hf2.below (Below.refl _ _).drew).fr fr4 (by omega); have x4 : Blk w4 w.heap.size 32 _ := x2.keep (fr4.block _ x2.lt (by rw [fr2.tags _ hlt0, hcl]; exact fun e => by cases e)); have d3 := hg4.wc; have z3 := x4.cell (k := 1) (u := .int .i64 a) rfl))
  all_goals
    have fx4 := (fx2.below (Below.refl _ _).drew).trans (fr4.toX (by omega))
    clear d0 d1 d3 z1 z3
    go_wp2
    go_ret2
    exact ⟨E, rfl, o4, sv2, rv2, nv4, kv4, qv4, m', M', ⟨hg4, hf4, hr4⟩, hok'.out, fx4⟩

set_option maxRecDepth 100000 in
set_option maxHeartbeats 4000000 in
theorem works_output (h : Trio o w gb fb wb ls ts lv tv m sv rv M nv kv qv) (hok : Ok m M B) (hB : B ≤ 10000000) (x : St) (hs : x.s.size ≤ 10000000) (hx : x.kind = 6) :
    Calls Tryz.prog 22 #[.pointer (some ⟨gb, 0, none⟩), x.val] w fun r w' => ∃ e, r = .returned (.tuple #[.int .i64 e, .int .i64 e]) ∧ ∃ o' sv' rv' nv' kv' qv' m' M', Trio o' w' gb fb wb ls ts lv tv m' sv' rv' M' nv' kv' qv' ∧ Ok m' M' (B + x.s.size + 1) ∧ FrX o w o' w' := by
  obtain ⟨kind, a, s, ⟨ch, dyn, mn, mx, mr, tmo, bl⟩, t⟩ := x
  simp only at hx hs
  subst hx
  simp only [St.val]
  have hsm := hok.small
  have _hB2 := hB
  have hsim := hok.sim
  have k1 : Hid (∀ w', FMem o 1 w' fb m sv rv → Calls Tryz.prog 49 #[.pointer (some ⟨fb, 0, none⟩), .int .i64 a, .string s] w' fun r w'' => r = .returned (.int .i64 (m.stE a 3)) ∧ ∃ o' sv' rv', FMem o' 1 w'' fb (m.afterOutput a s) sv' rv' ∧ Fr 1 o w' o' w'') := fun w' h' => by
    refine (output_any h' (by omega) a s (by omega) (S := 208 * B) (by omega) (fun c hc => hsm.sent c hc) hsim.fair.1).mono ?_
    rintro r w'' ⟨e, o'', sv', h1, h2⟩
    exact ⟨e, o'', sv', rv, h1, h2⟩
  have k2 : Hid (∀ o' w', RMem o' 2 w' wb M nv kv qv → Calls Tryz.prog 50 #[.pointer (some ⟨wb, 0, none⟩), .int .i64 a, .string s] w' fun r w'' => r = .returned (.int .i64 (m.stE a 3)) ∧ ∃ o'' nv' kv' qv', RMem o'' 2 w'' wb (M.afterOutput a s) nv' kv' qv' ∧ Fr 2 o' w' o'' w'') := fun o' w' h' => by
    refine (rOutput_any h' (by omega) hok.good.wf (by have := hok.good.queue; omega) a s (by omega) (S := B) (by omega) (fun c _ => hok.good.sent c) hsim.fair.2).mono ?_
    rintro r w'' ⟨e, o'', nv', h1, h2⟩
    rw [stE_same hsim]
    exact ⟨e, o'', nv', kv, qv, h1, h2⟩
  have hok' : Hid (Ok (m.afterOutput a s) (M.afterOutput a s) (B + s.size + 1)) := (hok.afterOutput a s).mono (by omega)
  clear hok hsm hsim hB hs _hB2
  generalize m.afterOutput a s = m' at *
  generalize M.afterOutput a s = M' at *
  generalize m.stE a 3 = E at *
  have hb0 : Below w.heap.size w (w.alloc (.cells #[.int .i64 6, .int .i64 a, .string s, .int .i64 ch, .bool dyn, .int .i64 mn, .int .i64 mx, .int .i64 mr, .int .i64 tmo, .int .i64 bl, .int .i64 t] 32)) := (Below.refl _ _).alloc (Nat.le_refl _) _
  have x0 := Blk.made w 32 [.int .i64 6, .int .i64 a, .string s, .int .i64 ch, .bool dyn, .int .i64 mn, .int .i64 mx, .int .i64 mr, .int .i64 tmo, .int .i64 bl, .int .i64 t]
  have hcl := h.f.clean _ (Nat.le_refl w.heap.size)
  go_enter Tryz.func22, Tryz.ntmps22
  go_wp2_with fail
  have x1 : Blk (w.alloc (.cells #[.int .i64 6, .int .i64 a, .string s, .int .i64 ch, .bool dyn, .int .i64 mn, .int .i64 mx, .int .i64 mr, .int .i64 tmo, .int .i64 bl, .int .i64 t] 32)) w.heap.size 32 [.int .i64 6, .int .i64 a, .string s, .int .i64 ch, .bool dyn, .int .i64 mn, .int .i64 mx, .int .i64 mr, .int .i64 tmo, .int .i64 bl, .int .i64 t] := x0
  have hT := h.below hb0
  have fx0 := FrX.of_below h.f.clean hb0
  clear x0 h
  generalize w.alloc (.cells #[.int .i64 6, .int .i64 a, .string s, .int .i64 ch, .bool dyn, .int .i64 mn, .int .i64 mx, .int .i64 mr, .int .i64 tmo, .int .i64 bl, .int .i64 t] 32) = w0 at *
  have c0 := hT.g.fc
  have y1 := x1.cell (k := 1) (u := .int .i64 a) rfl
  have y2 := x1.cell (k := 2) (u := .string s) rfl
  have hTd := hT.below (Below.refl _ _).drew
  have hlt0 : w.heap.size < w0.drew.heap.size := x1.lt
  go_region_held3 (fun w' => w'.cell? ⟨gb, 0, none⟩ = some (.pointer (some ⟨fb, 0, none⟩)) ∧ w'.cell? ⟨w.heap.size, 1, none⟩ = some (.int .i64 a) ∧ w'.cell? ⟨w.heap.size, 2, none⟩ = some (.string s)) (first | exact ⟨c0, y1, y2⟩ | exact ⟨d0, z1, z2⟩) (first | (go_at_call 49; refine (k1.out _ hTd.f).mono ?_; rintro e w2 ⟨rfl, o2, sv2, rv2, hf2, fr2⟩; have hg2 := hTd.g.fr fr2 (by omega); have hr2 := hTd.r.fr fr2 (by omega); have x2 : Blk w2 w.heap.size 32 _ := x1.keep (fr2.block _ x1.lt (by rw [hcl]; exact fun e => by cases e)); have d0 := hg2.fc; have z1 := x2.cell (k := 1) (u := .int .i64 a) rfl; have z2 := x2.cell (k := 2) (u := .string s) rfl))
  have fx2 := (fx0.below (Below.refl _ _).drew).trans (fr2.toX (by omega))
  have d1 := hg2.wc
  clear c0 y1 y2 hTd hT x1 k1 hb0
  go_wp2_with fail
  have hr2d := hr2.below (Below.refl _ _).drew
  go_region_held3 (fun w' => w'.cell? ⟨gb, 1, none⟩ = some (.pointer (some ⟨wb, 0, none⟩)) ∧ w'.cell? ⟨w.heap.size, 1, none⟩ = some (.int .i64 a) ∧ w'.cell? ⟨w.heap.size, 2, none⟩ = some (.string s)) (first | exact ⟨d1, z1, z2⟩ | exact ⟨d3, z3, z4⟩) (first | (go_at_call 13; refine (num_any _ _).mono ?_; rintro e w3 ⟨rfl, rfl⟩) | (go_at_call 50; refine (k2.out _ _ hr2d).mono ?_; rintro e w4 ⟨rfl, o4, nv4, kv4, qv4, hr4, fr4⟩; have hg4 := (hg2.below (Below.refl _ _).drew).fr fr4 (by omega); have hf4 := (hf2.below (Below.refl _ _).drew).fr fr4 (by omega); have x4 : Blk w4 w.heap.size 32 _ := x2.keep (fr4.block _ x2.lt (by rw [fr2.tags _ hlt0, hcl]; exact fun e => by cases e)); have d3 := hg4.wc; have z3 := x4.cell (k := 1) (u := .int .i64 a) rfl; have z4 := x4.cell (k := 2) (u := .string s) rfl))
  all_goals
    have fx4 := (fx2.below (Below.refl _ _).drew).trans (fr4.toX (by omega))
    clear d0 d1 d3 z1 z2 z3 z4
    go_wp2
    go_ret2
    exact ⟨E, rfl, o4, sv2, rv2, nv4, kv4, qv4, m', M', ⟨hg4, hf4, hr4⟩, hok'.out, fx4⟩

set_option maxRecDepth 100000 in
set_option maxHeartbeats 4000000 in
theorem works_finished (h : Trio o w gb fb wb ls ts lv tv m sv rv M nv kv qv) (hok : Ok m M B) (hB : B ≤ 10000000) (x : St) (hs : x.s.size ≤ 10000000) (hx : x.kind = 7) :
    Calls Tryz.prog 22 #[.pointer (some ⟨gb, 0, none⟩), x.val] w fun r w' => ∃ e, r = .returned (.tuple #[.int .i64 e, .int .i64 e]) ∧ ∃ o' sv' rv' nv' kv' qv' m' M', Trio o' w' gb fb wb ls ts lv tv m' sv' rv' M' nv' kv' qv' ∧ Ok m' M' (B + x.s.size + 1) ∧ FrX o w o' w' := by
  obtain ⟨kind, a, s, ⟨ch, dyn, mn, mx, mr, tmo, bl⟩, t⟩ := x
  simp only at hx hs
  subst hx
  simp only [St.val]
  have hsm := hok.small
  have _hB2 := hB
  have hsim := hok.sim
  have k1 : Hid (∀ w', FMem o 1 w' fb m sv rv → Calls Tryz.prog 51 #[.pointer (some ⟨fb, 0, none⟩), .int .i64 a] w' fun r w'' => r = .returned (.int .i64 (m.stE a 3)) ∧ ∃ o' sv' rv', FMem o' 1 w'' fb (m.afterFinished a) sv' rv' ∧ Fr 1 o w' o' w'') := fun w' h' => by
    exact finished_any h' (by omega) a (fun c hc => by have := hsm.sent c hc; omega) (by have := hsm.req; omega) hsim.fair.1
  have k2 : Hid (∀ o' w', RMem o' 2 w' wb M nv kv qv → Calls Tryz.prog 52 #[.pointer (some ⟨wb, 0, none⟩), .int .i64 a] w' fun r w'' => r = .returned (.int .i64 (m.stE a 3)) ∧ ∃ o'' nv' kv' qv', RMem o'' 2 w'' wb (M.afterFinished a) nv' kv' qv' ∧ Fr 2 o' w' o'' w'') := fun o' w' h' => by
    refine (rFinished_any h' hok.good.wf (by have := hok.good.queue; omega) a (fun c _ => by have := hok.good.sent c; omega) hsim.fair.2).mono ?_
    rintro r w'' ⟨e, o'', nv', h1, h2⟩
    rw [stE_same hsim]
    exact ⟨e, o'', nv', kv, qv, h1, h2⟩
  have hok' : Hid (Ok (m.afterFinished a) (M.afterFinished a) (B + s.size + 1)) := (hok.afterFinished a).mono (by omega)
  clear hok hsm hsim hB hs _hB2
  generalize m.afterFinished a = m' at *
  generalize M.afterFinished a = M' at *
  generalize m.stE a 3 = E at *
  have hb0 : Below w.heap.size w (w.alloc (.cells #[.int .i64 7, .int .i64 a, .string s, .int .i64 ch, .bool dyn, .int .i64 mn, .int .i64 mx, .int .i64 mr, .int .i64 tmo, .int .i64 bl, .int .i64 t] 32)) := (Below.refl _ _).alloc (Nat.le_refl _) _
  have x0 := Blk.made w 32 [.int .i64 7, .int .i64 a, .string s, .int .i64 ch, .bool dyn, .int .i64 mn, .int .i64 mx, .int .i64 mr, .int .i64 tmo, .int .i64 bl, .int .i64 t]
  have hcl := h.f.clean _ (Nat.le_refl w.heap.size)
  go_enter Tryz.func22, Tryz.ntmps22
  go_wp2_with fail
  have x1 : Blk (w.alloc (.cells #[.int .i64 7, .int .i64 a, .string s, .int .i64 ch, .bool dyn, .int .i64 mn, .int .i64 mx, .int .i64 mr, .int .i64 tmo, .int .i64 bl, .int .i64 t] 32)) w.heap.size 32 [.int .i64 7, .int .i64 a, .string s, .int .i64 ch, .bool dyn, .int .i64 mn, .int .i64 mx, .int .i64 mr, .int .i64 tmo, .int .i64 bl, .int .i64 t] := x0
  have hT := h.below hb0
  have fx0 := FrX.of_below h.f.clean hb0
  clear x0 h
  generalize w.alloc (.cells #[.int .i64 7, .int .i64 a, .string s, .int .i64 ch, .bool dyn, .int .i64 mn, .int .i64 mx, .int .i64 mr, .int .i64 tmo, .int .i64 bl, .int .i64 t] 32) = w0 at *
  have c0 := hT.g.fc
  have y1 := x1.cell (k := 1) (u := .int .i64 a) rfl
  have hTd := hT.below (Below.refl _ _).drew
  have hlt0 : w.heap.size < w0.drew.heap.size := x1.lt
  go_region_held3 (fun w' => w'.cell? ⟨gb, 0, none⟩ = some (.pointer (some ⟨fb, 0, none⟩)) ∧ w'.cell? ⟨w.heap.size, 1, none⟩ = some (.int .i64 a)) (first | exact ⟨c0, y1⟩ | exact ⟨d0, z1⟩) (first | (go_at_call 51; refine (k1.out _ hTd.f).mono ?_; rintro e w2 ⟨rfl, o2, sv2, rv2, hf2, fr2⟩; have hg2 := hTd.g.fr fr2 (by omega); have hr2 := hTd.r.fr fr2 (by omega); have x2 : Blk w2 w.heap.size 32 _ := x1.keep (fr2.block _ x1.lt (by rw [hcl]; exact fun e => by cases e)); have d0 := hg2.fc; have z1 := x2.cell (k := 1) (u := .int .i64 a) rfl))
  have fx2 := (fx0.below (Below.refl _ _).drew).trans (fr2.toX (by omega))
  have d1 := hg2.wc
  clear c0 y1 hTd hT x1 k1 hb0
  go_wp2_with fail
  have hr2d := hr2.below (Below.refl _ _).drew
  go_region_held3 (fun w' => w'.cell? ⟨gb, 1, none⟩ = some (.pointer (some ⟨wb, 0, none⟩)) ∧ w'.cell? ⟨w.heap.size, 1, none⟩ = some (.int .i64 a)) (first | exact ⟨d1, z1⟩ | exact ⟨d3, z3⟩) (first | (go_at_call 13; refine (num_any _ _).mono ?_; rintro e w3 ⟨rfl, rfl⟩) | (go_at_call 52; refine (k2.out _ _ hr2d).mono ?_; rintro e w4 ⟨rfl, o4, nv4, kv4, qv4, hr4, fr4⟩; have hg4 := (hg2.below (Below.refl _ _).drew).fr fr4 (by omega); have hf4 := (hf2.below (Below.refl _ _).drew).fr fr4 (by omega); have x4 : Blk w4 w.heap.size 32 _ := x2.keep (fr4.block _ x2.lt (by rw [fr2.tags _ hlt0, hcl]; exact fun e => by cases e)); have d3 := hg4.wc; have z3 := x4.cell (k := 1) (u := .int .i64 a) rfl))
  all_goals
    have fx4 := (fx2.below (Below.refl _ _).drew).trans (fr4.toX (by omega))
    clear d0 d1 d3 z1 z3
    go_wp2
    go_ret2
    exact ⟨E, rfl, o4, sv2, rv2, nv4, kv4, qv4, m', M', ⟨hg4, hf4, hr4⟩, hok'.out, fx4⟩

set_option maxRecDepth 100000 in
set_option maxHeartbeats 4000000 in
theorem works_died (h : Trio o w gb fb wb ls ts lv tv m sv rv M nv kv qv) (hok : Ok m M B) (hB : B ≤ 10000000) (x : St) (hs : x.s.size ≤ 10000000) (hx : x.kind = 8) :
    Calls Tryz.prog 22 #[.pointer (some ⟨gb, 0, none⟩), x.val] w fun r w' => ∃ e, r = .returned (.tuple #[.int .i64 e, .int .i64 e]) ∧ ∃ o' sv' rv' nv' kv' qv' m' M', Trio o' w' gb fb wb ls ts lv tv m' sv' rv' M' nv' kv' qv' ∧ Ok m' M' (B + x.s.size + 1) ∧ FrX o w o' w' := by
  obtain ⟨kind, a, s, ⟨ch, dyn, mn, mx, mr, tmo, bl⟩, t⟩ := x
  simp only at hx hs
  subst hx
  simp only [St.val]
  have hsm := hok.small
  have _hB2 := hB
  have hsim := hok.sim
  have k1 : Hid (∀ w', FMem o 1 w' fb m sv rv → Calls Tryz.prog 53 #[.pointer (some ⟨fb, 0, none⟩), .int .i64 a] w' fun r w'' => r = .returned (.int .i64 (m.diedE a)) ∧ ∃ o' sv' rv', FMem o' 1 w'' fb (m.afterDied a) sv' rv' ∧ Fr 1 o w' o' w'') := fun w' h' => by
    exact died_any h' (by omega) a (fun c hc => by have := hsm.sent c hc; omega) (by have := hsm.req; omega) hsim.fair.1
  have k2 : Hid (∀ o' w', RMem o' 2 w' wb M nv kv qv → Calls Tryz.prog 54 #[.pointer (some ⟨wb, 0, none⟩), .int .i64 a] w' fun r w'' => r = .returned (.int .i64 (m.diedE a)) ∧ ∃ o'' nv' kv' qv', RMem o'' 2 w'' wb (M.afterDied a) nv' kv' qv' ∧ Fr 2 o' w' o'' w'') := fun o' w' h' => by
    refine (rDied_any h' hok.good.wf (by have := hok.good.queue; omega) a (fun c _ => by have := hok.good.sent c; omega) hsim.fair.2).mono ?_
    rintro r w'' ⟨e, o'', nv', h1, h2⟩
    rw [diedE_same hsim]
    exact ⟨e, o'', nv', kv, qv, h1, h2⟩
  have hok' : Hid (Ok (m.afterDied a) (M.afterDied a) (B + s.size + 1)) := (hok.afterDied a).mono (by omega)
  clear hok hsm hsim hB hs _hB2
  generalize m.afterDied a = m' at *
  generalize M.afterDied a = M' at *
  generalize m.diedE a = E at *
  have hb0 : Below w.heap.size w (w.alloc (.cells #[.int .i64 8, .int .i64 a, .string s, .int .i64 ch, .bool dyn, .int .i64 mn, .int .i64 mx, .int .i64 mr, .int .i64 tmo, .int .i64 bl, .int .i64 t] 32)) := (Below.refl _ _).alloc (Nat.le_refl _) _
  have x0 := Blk.made w 32 [.int .i64 8, .int .i64 a, .string s, .int .i64 ch, .bool dyn, .int .i64 mn, .int .i64 mx, .int .i64 mr, .int .i64 tmo, .int .i64 bl, .int .i64 t]
  have hcl := h.f.clean _ (Nat.le_refl w.heap.size)
  go_enter Tryz.func22, Tryz.ntmps22
  go_wp2_with fail
  have x1 : Blk (w.alloc (.cells #[.int .i64 8, .int .i64 a, .string s, .int .i64 ch, .bool dyn, .int .i64 mn, .int .i64 mx, .int .i64 mr, .int .i64 tmo, .int .i64 bl, .int .i64 t] 32)) w.heap.size 32 [.int .i64 8, .int .i64 a, .string s, .int .i64 ch, .bool dyn, .int .i64 mn, .int .i64 mx, .int .i64 mr, .int .i64 tmo, .int .i64 bl, .int .i64 t] := x0
  have hT := h.below hb0
  have fx0 := FrX.of_below h.f.clean hb0
  clear x0 h
  generalize w.alloc (.cells #[.int .i64 8, .int .i64 a, .string s, .int .i64 ch, .bool dyn, .int .i64 mn, .int .i64 mx, .int .i64 mr, .int .i64 tmo, .int .i64 bl, .int .i64 t] 32) = w0 at *
  have c0 := hT.g.fc
  have y1 := x1.cell (k := 1) (u := .int .i64 a) rfl
  have hTd := hT.below (Below.refl _ _).drew
  have hlt0 : w.heap.size < w0.drew.heap.size := x1.lt
  go_region_held3 (fun w' => w'.cell? ⟨gb, 0, none⟩ = some (.pointer (some ⟨fb, 0, none⟩)) ∧ w'.cell? ⟨w.heap.size, 1, none⟩ = some (.int .i64 a)) (first | exact ⟨c0, y1⟩ | exact ⟨d0, z1⟩) (first | (go_at_call 53; refine (k1.out _ hTd.f).mono ?_; rintro e w2 ⟨rfl, o2, sv2, rv2, hf2, fr2⟩; have hg2 := hTd.g.fr fr2 (by omega); have hr2 := hTd.r.fr fr2 (by omega); have x2 : Blk w2 w.heap.size 32 _ := x1.keep (fr2.block _ x1.lt (by rw [hcl]; exact fun e => by cases e)); have d0 := hg2.fc; have z1 := x2.cell (k := 1) (u := .int .i64 a) rfl))
  have fx2 := (fx0.below (Below.refl _ _).drew).trans (fr2.toX (by omega))
  have d1 := hg2.wc
  clear c0 y1 hTd hT x1 k1 hb0
  go_wp2_with fail
  have hr2d := hr2.below (Below.refl _ _).drew
  go_region_held3 (fun w' => w'.cell? ⟨gb, 1, none⟩ = some (.pointer (some ⟨wb, 0, none⟩)) ∧ w'.cell? ⟨w.heap.size, 1, none⟩ = some (.int .i64 a)) (first | exact ⟨d1, z1⟩ | exact ⟨d3, z3⟩) (first | (go_at_call 13; refine (num_any _ _).mono ?_; rintro e w3 ⟨rfl, rfl⟩) | (go_at_call 54; refine (k2.out _ _ hr2d).mono ?_; rintro e w4 ⟨rfl, o4, nv4, kv4, qv4, hr4, fr4⟩; have hg4 := (hg2.below (Below.refl _ _).drew).fr fr4 (by omega); have hf4 := (hf2.below (Below.refl _ _).drew).fr fr4 (by omega); have x4 : Blk w4 w.heap.size 32 _ := x2.keep (fr4.block _ x2.lt (by rw [fr2.tags _ hlt0, hcl]; exact fun e => by cases e)); have d3 := hg4.wc; have z3 := x4.cell (k := 1) (u := .int .i64 a) rfl))
  all_goals
    have fx4 := (fx2.below (Below.refl _ _).drew).trans (fr4.toX (by omega))
    clear d0 d1 d3 z1 z3
    go_wp2
    go_ret2
    exact ⟨E, rfl, o4, sv2, rv2, nv4, kv4, qv4, m', M', ⟨hg4, hf4, hr4⟩, hok'.out, fx4⟩
end
end Go.Proofs.YtmjnengplfoiiaaGreat

namespace Go.Proofs.YtmjnengplfoiiaaGreat
open Go.RowKit

section
variable {o o' : Nat → Tag} {w w' : World} {gb fb wb : Nat} {ls ts : List Value} {lv tv : Value} {m : PM} {sv : Nat → Value} {rv : Value} {M : RM} {nv : Nat → Value} {kv qv : Value} {B : Nat}

/-- What a step leaves. -/
def After (o : Nat → Tag) (w : World) (gb fb wb : Nat) (ls ts : List Value) (lv tv : Value) (B : Nat) (w' : World) : Prop :=
  ∃ o' sv' rv' nv' kv' qv' m' M', Trio o' w' gb fb wb ls ts lv tv m' sv' rv' M' nv' kv' qv' ∧ Ok m' M' B ∧ FrX o w o' w'

set_option maxRecDepth 100000 in
set_option maxHeartbeats 4000000 in
theorem step_connect (h : Trio o w gb fb wb ls ts lv tv m sv rv M nv kv qv) (hok : Ok m M B) (hB : B ≤ 10000000) (x : St) (hs : x.s.size ≤ 10000000) (hx : x.kind = 2) :
    Calls Tryz.prog 10 #[.pointer (some ⟨gb, 0, none⟩), x.val] w fun r w' => r = .returned (.bool true) ∧ After o w gb fb wb ls ts lv tv (B + x.s.size + 1) w' := by
  obtain ⟨kind, a, s, ⟨ch, dyn, mn, mx, mr, tmo, bl⟩, t⟩ := x
  simp only at hx hs
  subst hx
  have hl : Hid (∀ w', Below w.heap.size w w' → Calls Tryz.prog 21 #[.pointer (some ⟨gb, 0, none⟩), .agg #[.int .i64 2, .int .i64 a, .string s, .int .i64 ch, .bool dyn, .int .i64 mn, .int .i64 mx, .int .i64 mr, .int .i64 tmo, .int .i64 bl, .int .i64 t]] w' fun r w'' => ∃ e, r = .returned (.tuple #[.int .i64 e, .int .i64 e]) ∧ After o w gb fb wb ls ts lv tv (B + s.size + 1) w'') := fun w' hb => by
    refine (lines_connect (h.below hb) hok hB ⟨2, a, s, ⟨ch, dyn, mn, mx, mr, tmo, bl⟩, t⟩ hs rfl).mono ?_
    rintro r w'' ⟨e, h1, o', sv', rv', nv', kv', qv', m', M', h2, h3, h4⟩
    exact ⟨e, h1, o', sv', rv', nv', kv', qv', m', M', h2, h3, (FrX.of_below h.f.clean hb).trans h4⟩
  simp only [St.val]
  generalize After o w gb fb wb ls ts lv tv (B + s.size + 1) = A at *
  clear h hok hB hs
  have hb0 : Below w.heap.size w (w.alloc (.cells #[.int .i64 2, .int .i64 a, .string s, .int .i64 ch, .bool dyn, .int .i64 mn, .int .i64 mx, .int .i64 mr, .int .i64 tmo, .int .i64 bl, .int .i64 t] 32)) := (Below.refl _ _).alloc (Nat.le_refl _) _
  go_enter Tryz.func10, Tryz.ntmps10
  go_wp2_with fail
  refine (hl.out _ hb0).mono ?_
  rintro r w2 ⟨e, rfl, hA⟩
  go_wp2
  go_ret
  exact ⟨by simp, hA⟩

set_option maxRecDepth 100000 in
set_option maxHeartbeats 4000000 in
theorem step_hangup (h : Trio o w gb fb wb ls ts lv tv m sv rv M nv kv qv) (hok : Ok m M B) (hB : B ≤ 10000000) (x : St) (hs : x.s.size ≤ 10000000) (hx : x.kind = 3) :
    Calls Tryz.prog 10 #[.pointer (some ⟨gb, 0, none⟩), x.val] w fun r w' => r = .returned (.bool true) ∧ After o w gb fb wb ls ts lv tv (B + x.s.size + 1) w' := by
  obtain ⟨kind, a, s, ⟨ch, dyn, mn, mx, mr, tmo, bl⟩, t⟩ := x
  simp only at hx hs
  subst hx
  have hl : Hid (∀ w', Below w.heap.size w w' → Calls Tryz.prog 21 #[.pointer (some ⟨gb, 0, none⟩), .agg #[.int .i64 3, .int .i64 a, .string s, .int .i64 ch, .bool dyn, .int .i64 mn, .int .i64 mx, .int .i64 mr, .int .i64 tmo, .int .i64 bl, .int .i64 t]] w' fun r w'' => ∃ e, r = .returned (.tuple #[.int .i64 e, .int .i64 e]) ∧ After o w gb fb wb ls ts lv tv (B + s.size + 1) w'') := fun w' hb => by
    refine (lines_hangup (h.below hb) hok hB ⟨3, a, s, ⟨ch, dyn, mn, mx, mr, tmo, bl⟩, t⟩ hs rfl).mono ?_
    rintro r w'' ⟨e, h1, o', sv', rv', nv', kv', qv', m', M', h2, h3, h4⟩
    exact ⟨e, h1, o', sv', rv', nv', kv', qv', m', M', h2, h3, (FrX.of_below h.f.clean hb).trans h4⟩
  simp only [St.val]
  generalize After o w gb fb wb ls ts lv tv (B + s.size + 1) = A at *
  clear h hok hB hs
  have hb0 : Below w.heap.size w (w.alloc (.cells #[.int .i64 3, .int .i64 a, .string s, .int .i64 ch, .bool dyn, .int .i64 mn, .int .i64 mx, .int .i64 mr, .int .i64 tmo, .int .i64 bl, .int .i64 t] 32)) := (Below.refl _ _).alloc (Nat.le_refl _) _
  go_enter Tryz.func10, Tryz.ntmps10
  go_wp2_with fail
  refine (hl.out _ hb0).mono ?_
  rintro r w2 ⟨e, rfl, hA⟩
  go_wp2
  go_ret
  exact ⟨by simp, hA⟩

set_option maxRecDepth 100000 in
set_option maxHeartbeats 4000000 in
theorem step_feed (h : Trio o w gb fb wb ls ts lv tv m sv rv M nv kv qv) (hok : Ok m M B) (hB : B ≤ 10000000) (x : St) (hs : x.s.size ≤ 10000000) (hx : x.kind = 4) :
    Calls Tryz.prog 10 #[.pointer (some ⟨gb, 0, none⟩), x.val] w fun r w' => r = .returned (.bool true) ∧ After o w gb fb wb ls ts lv tv (B + x.s.size + 1) w' := by
  obtain ⟨kind, a, s, ⟨ch, dyn, mn, mx, mr, tmo, bl⟩, t⟩ := x
  simp only at hx hs
  subst hx
  have hl : Hid (∀ w', Below w.heap.size w w' → Calls Tryz.prog 21 #[.pointer (some ⟨gb, 0, none⟩), .agg #[.int .i64 4, .int .i64 a, .string s, .int .i64 ch, .bool dyn, .int .i64 mn, .int .i64 mx, .int .i64 mr, .int .i64 tmo, .int .i64 bl, .int .i64 t]] w' fun r w'' => ∃ e, r = .returned (.tuple #[.int .i64 e, .int .i64 e]) ∧ After o w gb fb wb ls ts lv tv (B + s.size + 1) w'') := fun w' hb => by
    refine (lines_feed (h.below hb) hok hB ⟨4, a, s, ⟨ch, dyn, mn, mx, mr, tmo, bl⟩, t⟩ hs rfl).mono ?_
    rintro r w'' ⟨e, h1, o', sv', rv', nv', kv', qv', m', M', h2, h3, h4⟩
    exact ⟨e, h1, o', sv', rv', nv', kv', qv', m', M', h2, h3, (FrX.of_below h.f.clean hb).trans h4⟩
  simp only [St.val]
  generalize After o w gb fb wb ls ts lv tv (B + s.size + 1) = A at *
  clear h hok hB hs
  have hb0 : Below w.heap.size w (w.alloc (.cells #[.int .i64 4, .int .i64 a, .string s, .int .i64 ch, .bool dyn, .int .i64 mn, .int .i64 mx, .int .i64 mr, .int .i64 tmo, .int .i64 bl, .int .i64 t] 32)) := (Below.refl _ _).alloc (Nat.le_refl _) _
  go_enter Tryz.func10, Tryz.ntmps10
  go_wp2_with fail
  refine (hl.out _ hb0).mono ?_
  rintro r w2 ⟨e, rfl, hA⟩
  go_wp2
  go_ret
  exact ⟨by simp, hA⟩

set_option maxRecDepth 100000 in
set_option maxHeartbeats 4000000 in
theorem step_spawned (h : Trio o w gb fb wb ls ts lv tv m sv rv M nv kv qv) (hok : Ok m M B) (hB : B ≤ 10000000) (x : St) (hs : x.s.size ≤ 10000000) (hx : x.kind = 5) :
    Calls Tryz.prog 10 #[.pointer (some ⟨gb, 0, none⟩), x.val] w fun r w' => r = .returned (.bool true) ∧ After o w gb fb wb ls ts lv tv (B + x.s.size + 1) w' := by
  obtain ⟨kind, a, s, ⟨ch, dyn, mn, mx, mr, tmo, bl⟩, t⟩ := x
  simp only at hx hs
  subst hx
  have hl : Hid (∀ w', Below w.heap.size w w' → Calls Tryz.prog 22 #[.pointer (some ⟨gb, 0, none⟩), .agg #[.int .i64 5, .int .i64 a, .string s, .int .i64 ch, .bool dyn, .int .i64 mn, .int .i64 mx, .int .i64 mr, .int .i64 tmo, .int .i64 bl, .int .i64 t]] w' fun r w'' => ∃ e, r = .returned (.tuple #[.int .i64 e, .int .i64 e]) ∧ After o w gb fb wb ls ts lv tv (B + s.size + 1) w'') := fun w' hb => by
    refine (works_spawned (h.below hb) hok hB ⟨5, a, s, ⟨ch, dyn, mn, mx, mr, tmo, bl⟩, t⟩ hs rfl).mono ?_
    rintro r w'' ⟨e, h1, o', sv', rv', nv', kv', qv', m', M', h2, h3, h4⟩
    exact ⟨e, h1, o', sv', rv', nv', kv', qv', m', M', h2, h3, (FrX.of_below h.f.clean hb).trans h4⟩
  simp only [St.val]
  generalize After o w gb fb wb ls ts lv tv (B + s.size + 1) = A at *
  clear h hok hB hs
  have hb0 : Below w.heap.size w (w.alloc (.cells #[.int .i64 5, .int .i64 a, .string s, .int .i64 ch, .bool dyn, .int .i64 mn, .int .i64 mx, .int .i64 mr, .int .i64 tmo, .int .i64 bl, .int .i64 t] 32)) := (Below.refl _ _).alloc (Nat.le_refl _) _
  go_enter Tryz.func10, Tryz.ntmps10
  go_wp2_with fail
  refine (hl.out _ hb0).mono ?_
  rintro r w2 ⟨e, rfl, hA⟩
  go_wp2
  go_ret
  exact ⟨by simp, hA⟩

set_option maxRecDepth 100000 in
set_option maxHeartbeats 4000000 in
theorem step_output (h : Trio o w gb fb wb ls ts lv tv m sv rv M nv kv qv) (hok : Ok m M B) (hB : B ≤ 10000000) (x : St) (hs : x.s.size ≤ 10000000) (hx : x.kind = 6) :
    Calls Tryz.prog 10 #[.pointer (some ⟨gb, 0, none⟩), x.val] w fun r w' => r = .returned (.bool true) ∧ After o w gb fb wb ls ts lv tv (B + x.s.size + 1) w' := by
  obtain ⟨kind, a, s, ⟨ch, dyn, mn, mx, mr, tmo, bl⟩, t⟩ := x
  simp only at hx hs
  subst hx
  have hl : Hid (∀ w', Below w.heap.size w w' → Calls Tryz.prog 22 #[.pointer (some ⟨gb, 0, none⟩), .agg #[.int .i64 6, .int .i64 a, .string s, .int .i64 ch, .bool dyn, .int .i64 mn, .int .i64 mx, .int .i64 mr, .int .i64 tmo, .int .i64 bl, .int .i64 t]] w' fun r w'' => ∃ e, r = .returned (.tuple #[.int .i64 e, .int .i64 e]) ∧ After o w gb fb wb ls ts lv tv (B + s.size + 1) w'') := fun w' hb => by
    refine (works_output (h.below hb) hok hB ⟨6, a, s, ⟨ch, dyn, mn, mx, mr, tmo, bl⟩, t⟩ hs rfl).mono ?_
    rintro r w'' ⟨e, h1, o', sv', rv', nv', kv', qv', m', M', h2, h3, h4⟩
    exact ⟨e, h1, o', sv', rv', nv', kv', qv', m', M', h2, h3, (FrX.of_below h.f.clean hb).trans h4⟩
  simp only [St.val]
  generalize After o w gb fb wb ls ts lv tv (B + s.size + 1) = A at *
  clear h hok hB hs
  have hb0 : Below w.heap.size w (w.alloc (.cells #[.int .i64 6, .int .i64 a, .string s, .int .i64 ch, .bool dyn, .int .i64 mn, .int .i64 mx, .int .i64 mr, .int .i64 tmo, .int .i64 bl, .int .i64 t] 32)) := (Below.refl _ _).alloc (Nat.le_refl _) _
  go_enter Tryz.func10, Tryz.ntmps10
  go_wp2_with fail
  refine (hl.out _ hb0).mono ?_
  rintro r w2 ⟨e, rfl, hA⟩
  go_wp2
  go_ret
  exact ⟨by simp, hA⟩

set_option maxRecDepth 100000 in
set_option maxHeartbeats 4000000 in
theorem step_finished (h : Trio o w gb fb wb ls ts lv tv m sv rv M nv kv qv) (hok : Ok m M B) (hB : B ≤ 10000000) (x : St) (hs : x.s.size ≤ 10000000) (hx : x.kind = 7) :
    Calls Tryz.prog 10 #[.pointer (some ⟨gb, 0, none⟩), x.val] w fun r w' => r = .returned (.bool true) ∧ After o w gb fb wb ls ts lv tv (B + x.s.size + 1) w' := by
  obtain ⟨kind, a, s, ⟨ch, dyn, mn, mx, mr, tmo, bl⟩, t⟩ := x
  simp only at hx hs
  subst hx
  have hl : Hid (∀ w', Below w.heap.size w w' → Calls Tryz.prog 22 #[.pointer (some ⟨gb, 0, none⟩), .agg #[.int .i64 7, .int .i64 a, .string s, .int .i64 ch, .bool dyn, .int .i64 mn, .int .i64 mx, .int .i64 mr, .int .i64 tmo, .int .i64 bl, .int .i64 t]] w' fun r w'' => ∃ e, r = .returned (.tuple #[.int .i64 e, .int .i64 e]) ∧ After o w gb fb wb ls ts lv tv (B + s.size + 1) w'') := fun w' hb => by
    refine (works_finished (h.below hb) hok hB ⟨7, a, s, ⟨ch, dyn, mn, mx, mr, tmo, bl⟩, t⟩ hs rfl).mono ?_
    rintro r w'' ⟨e, h1, o', sv', rv', nv', kv', qv', m', M', h2, h3, h4⟩
    exact ⟨e, h1, o', sv', rv', nv', kv', qv', m', M', h2, h3, (FrX.of_below h.f.clean hb).trans h4⟩
  simp only [St.val]
  generalize After o w gb fb wb ls ts lv tv (B + s.size + 1) = A at *
  clear h hok hB hs
  have hb0 : Below w.heap.size w (w.alloc (.cells #[.int .i64 7, .int .i64 a, .string s, .int .i64 ch, .bool dyn, .int .i64 mn, .int .i64 mx, .int .i64 mr, .int .i64 tmo, .int .i64 bl, .int .i64 t] 32)) := (Below.refl _ _).alloc (Nat.le_refl _) _
  go_enter Tryz.func10, Tryz.ntmps10
  go_wp2_with fail
  refine (hl.out _ hb0).mono ?_
  rintro r w2 ⟨e, rfl, hA⟩
  go_wp2
  go_ret
  exact ⟨by simp, hA⟩

set_option maxRecDepth 100000 in
set_option maxHeartbeats 4000000 in
theorem step_died (h : Trio o w gb fb wb ls ts lv tv m sv rv M nv kv qv) (hok : Ok m M B) (hB : B ≤ 10000000) (x : St) (hs : x.s.size ≤ 10000000) (hx : x.kind = 8) :
    Calls Tryz.prog 10 #[.pointer (some ⟨gb, 0, none⟩), x.val] w fun r w' => r = .returned (.bool true) ∧ After o w gb fb wb ls ts lv tv (B + x.s.size + 1) w' := by
  obtain ⟨kind, a, s, ⟨ch, dyn, mn, mx, mr, tmo, bl⟩, t⟩ := x
  simp only at hx hs
  subst hx
  have hl : Hid (∀ w', Below w.heap.size w w' → Calls Tryz.prog 22 #[.pointer (some ⟨gb, 0, none⟩), .agg #[.int .i64 8, .int .i64 a, .string s, .int .i64 ch, .bool dyn, .int .i64 mn, .int .i64 mx, .int .i64 mr, .int .i64 tmo, .int .i64 bl, .int .i64 t]] w' fun r w'' => ∃ e, r = .returned (.tuple #[.int .i64 e, .int .i64 e]) ∧ After o w gb fb wb ls ts lv tv (B + s.size + 1) w'') := fun w' hb => by
    refine (works_died (h.below hb) hok hB ⟨8, a, s, ⟨ch, dyn, mn, mx, mr, tmo, bl⟩, t⟩ hs rfl).mono ?_
    rintro r w'' ⟨e, h1, o', sv', rv', nv', kv', qv', m', M', h2, h3, h4⟩
    exact ⟨e, h1, o', sv', rv', nv', kv', qv', m', M', h2, h3, (FrX.of_below h.f.clean hb).trans h4⟩
  simp only [St.val]
  generalize After o w gb fb wb ls ts lv tv (B + s.size + 1) = A at *
  clear h hok hB hs
  have hb0 : Below w.heap.size w (w.alloc (.cells #[.int .i64 8, .int .i64 a, .string s, .int .i64 ch, .bool dyn, .int .i64 mn, .int .i64 mx, .int .i64 mr, .int .i64 tmo, .int .i64 bl, .int .i64 t] 32)) := (Below.refl _ _).alloc (Nat.le_refl _) _
  go_enter Tryz.func10, Tryz.ntmps10
  go_wp2_with fail
  refine (hl.out _ hb0).mono ?_
  rintro r w2 ⟨e, rfl, hA⟩
  go_wp2
  go_ret
  exact ⟨by simp, hA⟩

set_option maxRecDepth 100000 in
set_option maxHeartbeats 4000000 in
theorem step_none (h : Trio o w gb fb wb ls ts lv tv m sv rv M nv kv qv) (hok : Ok m M B) (x : St) (hx : x.kind ≤ 1) :
    Calls Tryz.prog 10 #[.pointer (some ⟨gb, 0, none⟩), x.val] w fun r w' => r = .returned (.bool true) ∧ After o w gb fb wb ls ts lv tv (B + x.s.size + 1) w' := by
  obtain ⟨kind, a, s, ⟨ch, dyn, mn, mx, mr, tmo, bl⟩, t⟩ := x
  simp only at hx
  simp only [St.val]
  have hb0 : Below w.heap.size w (w.alloc (.cells #[.int .i64 kind, .int .i64 a, .string s, .int .i64 ch, .bool dyn, .int .i64 mn, .int .i64 mx, .int .i64 mr, .int .i64 tmo, .int .i64 bl, .int .i64 t] 32)) := (Below.refl _ _).alloc (Nat.le_refl _) _
  have hA : Hid (After o w gb fb wb ls ts lv tv (B + s.size + 1) (w.alloc (.cells #[.int .i64 kind, .int .i64 a, .string s, .int .i64 ch, .bool dyn, .int .i64 mn, .int .i64 mx, .int .i64 mr, .int .i64 tmo, .int .i64 bl, .int .i64 t] 32))) := ⟨o, sv, rv, nv, kv, qv, m, M, h.below hb0, hok.mono (by omega), FrX.of_below h.f.clean hb0⟩
  generalize After o w gb fb wb ls ts lv tv (B + s.size + 1) = A at *
  clear h hok hb0
  have n2 : (kind == 2) = false := by rw [beq_eq_false_iff_ne]; omega
  have n3 : (kind == 3) = false := by rw [beq_eq_false_iff_ne]; omega
  have n4 : (kind == 4) = false := by rw [beq_eq_false_iff_ne]; omega
  have n5 : (kind == 5) = false := by rw [beq_eq_false_iff_ne]; omega
  have n6 : (kind == 6) = false := by rw [beq_eq_false_iff_ne]; omega
  have n7 : (kind == 7) = false := by rw [beq_eq_false_iff_ne]; omega
  have n8 : (kind == 8) = false := by rw [beq_eq_false_iff_ne]; omega
  have n9 : (kind == 9) = false := by rw [beq_eq_false_iff_ne]; omega
  have n10 : (kind == 10) = false := by rw [beq_eq_false_iff_ne]; omega
  go_enter Tryz.func10, Tryz.ntmps10
  go_wp2
  go_ret
  exact ⟨rfl, hA.out⟩

/-- A step of a kind up to KDied. -/
theorem step_any (h : Trio o w gb fb wb ls ts lv tv m sv rv M nv kv qv) (hok : Ok m M B) (hB : B ≤ 10000000) (x : St) (hs : x.s.size ≤ 10000000) (hx : x.kind ≤ 8) :
    Calls Tryz.prog 10 #[.pointer (some ⟨gb, 0, none⟩), x.val] w fun r w' => r = .returned (.bool true) ∧ After o w gb fb wb ls ts lv tv (B + x.s.size + 1) w' := by
  by_cases h1 : x.kind ≤ 1
  · exact step_none h hok x h1
  · have : x.kind = 2 ∨ x.kind = 3 ∨ x.kind = 4 ∨ x.kind = 5 ∨ x.kind = 6 ∨ x.kind = 7 ∨ x.kind = 8 := by omega
    rcases this with e | e | e | e | e | e | e
    · exact step_connect h hok hB x hs e
    · exact step_hangup h hok hB x hs e
    · exact step_feed h hok hB x hs e
    · exact step_spawned h hok hB x hs e
    · exact step_output h hok hB x hs e
    · exact step_finished h hok hB x hs e
    · exact step_died h hok hB x hs e
end
end Go.Proofs.YtmjnengplfoiiaaGreat

namespace Go.Proofs.YtmjnengplfoiiaaGreat
open Go.RowKit

theorem cfg_ch1 {c : Cfg} (h : c.ok = true) : 1 ≤ c.ch := by
  simp only [Cfg.ok, Bool.and_eq_true, decide_eq_true_eq] at h
  exact h.1.1.1.1

theorem leaseTo_none (m : PM) (h : m.fw = none) (k : Nat) : m.leaseTo k = m := by
  induction k with
  | zero => rfl
  | succ k ih => simp only [PM.leaseTo, ih, PM.leaseAt, h]

theorem raw_used (c : Cfg) : (rawPM c).usedTo 6 = 0 := by simp [PM.usedTo, rawPM, newSlot]

theorem startTo_raw (c : Cfg) (h0 : 0 ≤ c.ch) (k : Nat) : startTo (rawPM c) 0 k = ({ rawPM c with slot := fun i => if i < k ∧ (i : Int) < c.ch then newSlot 1 else newSlot 0 }, if (k : Int) < c.ch then (k : Int) else c.ch) := by
  induction k with
  | zero =>
    simp only [startTo]
    congr 1
    simp; omega
  | succ k ih =>
    simp only [startTo, ih]
    have hset : (rawPM c).set = c := rfl
    rw [hset]
    have hs : ((if k < k ∧ (k : Int) < c.ch then newSlot 1 else newSlot 0).st == 0) = true := by simp [newSlot]
    rw [hs, Bool.and_true]
    by_cases hk : (k : Int) < c.ch
    · simp only [hk, if_true, decide_true, cond_true]
      refine Prod.ext ?_ ?_
      · simp only
        congr 1
        funext i
        simp only [upd]
        by_cases e : i = k
        · subst e; simp [hk]
        · simp only [e, if_false]
          by_cases e2 : i < k
          · simp [e2, show i < k + 1 from by omega]
          · simp [e2, show ¬ i < k + 1 from by omega]
      · simp only; split <;> omega
    · simp only [hk, if_false, Int.lt_irrefl, decide_false, cond_false]
      refine Prod.ext ?_ ?_
      · simp only
        congr 1
        funext i
        by_cases e : i = k
        · subst e; simp [hk]
        · by_cases e2 : i < k
          · simp [e2, show i < k + 1 from by omega]
          · simp [e2, show ¬ i < k + 1 from by omega]
      · simp only; split <;> omega

theorem newPM_eq (c : Cfg) (h : c.ok = true) : newPM c = { rawPM c with slot := fun i => if c.dyn = false ∧ i < 6 ∧ (i : Int) < c.ch then newSlot 1 else newSlot 0 } := by
  have h0 : 0 ≤ c.ch := by have := cfg_ch1 h; omega
  unfold newPM PM.settle PM.leaseWaiting
  rw [leaseTo_none]
  · cases hd : (rawPM c).set.dyn
    · have hd2 : c.dyn = false := hd
      simp only [cond_false, PM.startMissing, raw_used, startTo_raw c h0, hd2, true_and]
    · have hd2 : c.dyn = true := hd
      simp only [cond_true, hd2]
      simp [rawPM]
  · cases hd : (rawPM c).set.dyn
    · simp only [cond_false, PM.startMissing, raw_used, startTo_raw c h0]; rfl
    · rfl

/-- The document's foreman with j slots started. -/
def stRM (c : Cfg) (j : Nat) : RM := { rawRM c with slot := fun i => if i < j then startSlot else ⟨0, 0, 0, false, 0⟩ }

theorem stRM_first (c : Cfg) (j : Nat) (hj : j < 6) : (stRM c j).first 0 = some j := by
  rcases j with _ | _ | _ | _ | _ | _ | j <;> first | omega | simp [RM.first, RM.fst, stRM, startSlot]

theorem stRM_cnt (c : Cfg) (j : Nat) (hj : j ≤ 6) : (stRM c j).cnt 0 = 6 - j := by
  rcases j with _ | _ | _ | _ | _ | _ | _ | j <;> first | omega | simp [RM.cnt, RM.cntTo, stRM, startSlot]

theorem stRM_starts (c : Cfg) (j : Nat) (hj : j < 6) : (stRM c j).starts = stRM c (j + 1) := by
  unfold RM.starts
  rw [stRM_first c j hj]
  simp only [stRM, RM.mk.injEq, true_and, and_true]
  funext i
  simp only [upd]
  by_cases e : i = j
  · subst e; simp
  · by_cases e2 : i < j
    · simp [e, e2, show i < j + 1 from by omega]
    · simp [e, e2, show ¬ i < j + 1 from by omega]

theorem stRM_go (c : Cfg) (hd : c.dyn = false) (hc : c.ch ≤ 6) (n j : Nat) (hj : (j : Int) ≤ c.ch) (hn : c.ch ≤ (j : Int) + n) : (stRM c j).startN n = stRM c c.ch.toNat := by
  induction n generalizing j with
  | zero =>
    have : c.ch.toNat = j := by omega
    rw [this]; rfl
  | succ n ih =>
    rw [show (stRM c j).startN (n + 1) = cond (!(stRM c j).set.dyn && decide (6 - (stRM c j).cnt 0 < (stRM c j).set.ch)) ((stRM c j).starts.startN n) (stRM c j) from rfl]
    rw [show (stRM c j).set = c from rfl, hd, stRM_cnt c j (by omega)]
    by_cases e : (j : Int) < c.ch
    · rw [decide_eq_true (by omega)]
      simp only [Bool.not_false, Bool.and_self, cond_true]
      rw [stRM_starts c j (by omega)]
      exact ih (j + 1) (by omega) (by omega)
    · rw [decide_eq_false (by omega)]
      simp only [Bool.and_false, cond_false]
      rw [show c.ch.toNat = j from by omega]

theorem startRM_eq (c : Cfg) (h : c.ok = true) : startRM c = stRM c (cond c.dyn 0 c.ch.toNat) := by
  have h0 : 0 ≤ c.ch := by have := cfg_ch1 h; omega
  have hc := cfg_ch h
  have e0 : rawRM c = stRM c 0 := by simp [stRM, rawRM]
  unfold startRM RM.startAll
  rw [e0]
  cases hd : c.dyn
  · rw [cond_false]; exact stRM_go c hd hc 6 0 (by omega) (by omega)
  · rw [cond_true, show (stRM c 0).startN 6 = cond (!(stRM c 0).set.dyn && decide (6 - (stRM c 0).cnt 0 < (stRM c 0).set.ch)) ((stRM c 0).starts.startN 5) (stRM c 0) from rfl]
    rw [show (stRM c 0).set.dyn = c.dyn from rfl, hd]
    rfl
end Go.Proofs.YtmjnengplfoiiaaGreat

namespace Go.Proofs.YtmjnengplfoiiaaGreat
open Go.RowKit

theorem slots_new (c : Cfg) (h : c.ok = true) (k : Nat) (hk : k < 6) :
    ((newPM c).slot k = newSlot 1 ∧ (startRM c).slot k = startSlot) ∨ ((newPM c).slot k = newSlot 0 ∧ (startRM c).slot k = ⟨0, 0, 0, false, 0⟩) := by
  have h0 : 0 ≤ c.ch := by have := cfg_ch1 h; omega
  rw [newPM_eq c h, startRM_eq c h]
  simp only [stRM]
  cases hd : c.dyn
  · simp only [cond_false, hk, true_and]
    by_cases e : (k : Int) < c.ch
    · left; simp only [e, if_true, show k < c.ch.toNat from by omega, and_self]
    · right; simp only [e, if_false, show ¬ k < c.ch.toNat from by omega, and_self]
  · right; simp

theorem startRM_quiet (c : Cfg) (h : c.ok = true) : (startRM c).quiet := by
  intro k hk
  rcases slots_new c h k hk with ⟨-, e⟩ | ⟨-, e⟩ <;> rw [e]
  · exact .inr rfl
  · exact .inl rfl

theorem startRM_wf (c : Cfg) (h : c.ok = true) : (startRM c).wf := by
  refine RM.wf_quiet (startRM_quiet c h) ?_ ?_
  · rw [startRM_eq c h]; intro i hi; cases hi
  · rw [startRM_eq c h]; exact cfg_ch h

theorem RM.quiet_live {M : RM} (h : M.quiet) (k : Nat) (hk : k < 6) : M.live k = false := by
  unfold RM.live
  rcases h k hk with e | e <;> rw [e] <;> rfl

theorem same_new (c : Cfg) (h : c.ok = true) : Same (newPM c) (startRM c) := by
  have hcon : (newPM c).con = fun _ => ⟨false, ⟨#[]⟩, []⟩ := by rw [newPM_eq c h]; rfl
  have hreq : (newPM c).req = [] := by rw [newPM_eq c h]; rfl
  have hline : (startRM c).line = fun _ => ⟨false, ⟨#[]⟩, 0, []⟩ := by rw [startRM_eq c h]; rfl
  have hq : (startRM c).queue = [] := by rw [startRM_eq c h]; rfl
  have hquiet := startRM_quiet c h
  refine ⟨?_, ?_, ?_, ?_, ?_, ?_, ?_⟩
  · intro n; simp only [PM.open_, RM.open_, hcon, hline]
  · intro n
    simp only [PM.sent_, RM.sent_, hcon, hline]
    cases isC n <;> rfl
  · intro n
    rcases isS_cases n with e | ⟨e, k, hk, rfl⟩
    · simp only [RM.slotV, PM.slotV, e, cond_false]
    · simp only [RM.slotV, PM.slotV, e, cond_true, Int.toNat_natCast, RM.connOf, RM.idOf, RM.quiet_live hquiet k hk, cond_false, slotVal]
      rcases slots_new c h k hk with ⟨e1, e2⟩ | ⟨e1, e2⟩ <;> rw [e1, e2] <;> rfl
  · intro n
    rcases isS_cases n with e | ⟨e, k, hk, rfl⟩
    · simp only [RM.jobV, PM.jobV, e, Bool.false_and, cond_false]
    · simp only [RM.jobV, PM.jobV, e, Bool.true_and, Int.toNat_natCast]
      rcases slots_new c h k hk with ⟨e1, e2⟩ | ⟨e1, e2⟩ <;> rw [e1, e2] <;> rfl
  · intro n
    rcases isS_cases n with e | ⟨e, k, hk, rfl⟩
    · simp only [RM.stE, PM.jobE, PM.stE, e, cond_false]
    · simp only [RM.stE, PM.jobE, PM.stE, e, cond_true, Int.toNat_natCast]
      rcases slots_new c h k hk with ⟨e1, e2⟩ | ⟨e1, e2⟩ <;> rw [e1, e2] <;> rfl
  · simp only [RM.waits, RM.back, hq, PM.waits, hreq]; rfl
  · rw [newPM_eq c h, startRM_eq c h]; rfl

set_option maxRecDepth 100000 in
set_option maxHeartbeats 1000000 in
theorem begin_no (c : Cfg) (w : World) (h : c.ok = false) :
    Calls Tryz.prog 8 #[c.val] w fun r w' => r = .returned (.tuple #[.pointer none, .bool true]) ∧ Below w.heap.size w w' := by
  have k1 : Hid (∀ w, Calls Tryz.prog 11 #[c.val] w fun r w' => r = .returned (.tuple #[.pointer none, .int .i64 1]) ∧ Below w.heap.size w w') := fun w => new_no c w h
  have k2 : Hid (∀ w, Calls Tryz.prog 12 #[c.val] w fun r w' => r = .returned (.bool false) ∧ Below w.heap.size w w') := fun w => h ▸ right_any c w
  unfold Cfg.val at *
  go_enter Tryz.func8, Tryz.ntmps8
  go_wp2_with fail
  have hk0 := Blk.made w 23 c.cells
  have hb0 : Below w.heap.size w (w.alloc (.cells #[.int .i64 c.ch, .bool c.dyn, .int .i64 c.mn, .int .i64 c.mx, .int .i64 c.mr, .int .i64 c.tmo, .int .i64 c.bl] 23)) := (Below.refl _ _).alloc (Nat.le_refl _) _
  refine (k1.out _).mono ?_
  rintro e w1 ⟨rfl, hb⟩
  have hk1 := hk0.below hb
  have d0 := hk1.cell (k := 0) (u := .int .i64 c.ch) rfl
  have d1 := hk1.cell (k := 1) (u := .bool c.dyn) rfl
  have d2 := hk1.cell (k := 2) (u := .int .i64 c.mn) rfl
  have d3 := hk1.cell (k := 3) (u := .int .i64 c.mx) rfl
  have d4 := hk1.cell (k := 4) (u := .int .i64 c.mr) rfl
  have d5 := hk1.cell (k := 5) (u := .int .i64 c.tmo) rfl
  have d6 := hk1.cell (k := 6) (u := .int .i64 c.bl) rfl
  have hb1 : Below w.heap.size w w1 := hb0.trans (hb.mono (by simp))
  clear hk0 hk1 hb0 hb k1
  go_wp2_with fail
  refine (k2.out _).mono ?_
  rintro e w2 ⟨rfl, hb2⟩
  clear d0 d1 d2 d3 d4 d5 d6
  go_wp2_with fail
  refine (num_any _ _).mono ?_
  rintro e w3 ⟨rfl, rfl⟩
  go_wp2
  go_ret2
  exact ⟨by simp, hb1.trans (hb2.mono hb1.size)⟩

def noTag : Nat → Tag := fun _ => (0, 0)

set_option maxRecDepth 100000 in
set_option maxHeartbeats 2000000 in
theorem begin_yes (c : Cfg) (w : World) (h : c.ok = true) :
    Calls Tryz.prog 8 #[c.val] w fun r w' => ∃ gb fb wb o', r = .returned (.tuple #[.pointer (some ⟨gb, 0, none⟩), .bool true]) ∧
      Trio o' w' gb fb wb [] [] (.slice none 0 0) (.slice none 0 0) (newPM c) nilV (.slice none 0 0) (startRM c) nilV (.slice none 0 0) (.slice none 0 0) ∧ Below w.heap.size w w' ∧ ∀ g, g < w.heap.size → o' g = (0, 0) := by
  have k1 : Hid (∀ w, Calls Tryz.prog 11 #[c.val] w fun r w' => ∃ b o', r = .returned (.tuple #[.pointer (some ⟨b, 0, none⟩), .int .i64 0]) ∧ FMem o' 1 w' b (newPM c) nilV (.slice none 0 0) ∧ Fr 1 noTag w o' w') := fun w => new_yes (q := 1) c w (o := noTag) (fun _ _ => rfl) h
  have k2 : Hid (∀ w, Calls Tryz.prog 12 #[c.val] w fun r w' => r = .returned (.bool true) ∧ Below w.heap.size w w') := fun w => h ▸ right_any c w
  have k3 : Hid (∀ w o, Clean o w → Calls Tryz.prog 14 #[c.val] w fun r w' => ∃ b o', r = .returned (.pointer (some ⟨b, 0, none⟩)) ∧ RMem o' 2 w' b (startRM c) nilV (.slice none 0 0) (.slice none 0 0) ∧ Fr 2 o w o' w') := fun w o ho => start_any (q := 2) c w ho h
  unfold Cfg.val at *
  go_enter Tryz.func8, Tryz.ntmps8
  go_wp2_with fail
  have hk0 := Blk.made w 23 c.cells
  have hb0 : Below w.heap.size w (w.alloc (.cells #[.int .i64 c.ch, .bool c.dyn, .int .i64 c.mn, .int .i64 c.mx, .int .i64 c.mr, .int .i64 c.tmo, .int .i64 c.bl] 23)) := (Below.refl _ _).alloc (Nat.le_refl _) _
  refine (k1.out _).mono ?_
  rintro e w1 ⟨fb, o1, rfl, hm1, fr1⟩
  have hb : Below (w.alloc (.cells #[.int .i64 c.ch, .bool c.dyn, .int .i64 c.mn, .int .i64 c.mx, .int .i64 c.mr, .int .i64 c.tmo, .int .i64 c.bl] 23)).heap.size (w.alloc (.cells #[.int .i64 c.ch, .bool c.dyn, .int .i64 c.mn, .int .i64 c.mx, .int .i64 c.mr, .int .i64 c.tmo, .int .i64 c.bl] 23)) w1 :=
    fr1.toBelow _ (Nat.le_refl _) (fun g _ => by simp [noTag])
  have hk1 := hk0.below hb
  have ht1 : ∀ g, g < w.heap.size + 1 → o1 g = (0, 0) := fun g hg => fr1.tags g (by simpa using hg)
  have d0 := hk1.cell (k := 0) (u := .int .i64 c.ch) rfl
  have d1 := hk1.cell (k := 1) (u := .bool c.dyn) rfl
  have d2 := hk1.cell (k := 2) (u := .int .i64 c.mn) rfl
  have d3 := hk1.cell (k := 3) (u := .int .i64 c.mx) rfl
  have d4 := hk1.cell (k := 4) (u := .int .i64 c.mr) rfl
  have d5 := hk1.cell (k := 5) (u := .int .i64 c.tmo) rfl
  have d6 := hk1.cell (k := 6) (u := .int .i64 c.bl) rfl
  have hb1 : Below w.heap.size w w1 := hb0.trans (hb.mono (by simp))
  have hlt1 : w.heap.size < w1.heap.size := hk1.lt
  clear hk0 hb0 hb k1 fr1
  go_wp2_with fail
  refine (k2.out _).mono ?_
  rintro e w2 ⟨rfl, hb2⟩
  have hm2 := hm1.below hb2
  have hk2 := hk1.below hb2
  clear d0 d1 d2 d3 d4 d5 d6 hk1 hm1 k2
  have d0 := hk2.cell (k := 0) (u := .int .i64 c.ch) rfl
  have d1 := hk2.cell (k := 1) (u := .bool c.dyn) rfl
  have d2 := hk2.cell (k := 2) (u := .int .i64 c.mn) rfl
  have d3 := hk2.cell (k := 3) (u := .int .i64 c.mx) rfl
  have d4 := hk2.cell (k := 4) (u := .int .i64 c.mr) rfl
  have d5 := hk2.cell (k := 5) (u := .int .i64 c.tmo) rfl
  have d6 := hk2.cell (k := 6) (u := .int .i64 c.bl) rfl
  have hb2' : Below w.heap.size w w2 := hb1.trans (hb2.mono hb1.size)
  have hlt2 : w.heap.size < w2.heap.size := hk2.lt
  clear hk2 hb1 hb2 hlt1
  go_wp2_with fail
  refine (num_any _ _).mono ?_
  rintro e w3 ⟨rfl, rfl⟩
  go_wp2_with fail
  refine (k3.out _ o1 hm2.clean).mono ?_
  rintro e w4 ⟨wb, o2, rfl, hr4, fr4⟩
  have hm4 := hm2.fr fr4 (by omega)
  have hb4 : Below w.heap.size w w4 := hb2'.trans (fr4.toBelow w.heap.size (Nat.le_of_lt hlt2) (fun g hg => by rw [ht1 g (by omega)]; simp))
  have ht4 : ∀ g, g < w.heap.size → o2 g = (0, 0) := fun g hg => (fr4.tags g (by omega)).trans (ht1 g (by omega))
  clear d0 d1 d2 d3 d4 d5 d6 k3
  go_wp2
  go_ret2
  have hcl : Clean (upd o2 w4.heap.size (3, 1)) (w4.alloc (.cells #[.pointer (some ⟨fb, 0, none⟩), .pointer (some ⟨wb, 0, none⟩), .slice none 0 0, .slice none 0 0] 44)) := by
    intro g hg
    have h1 : w4.heap.size + 1 ≤ g := by simpa using hg
    rw [upd_other _ _ (by omega)]
    exact hm4.clean g (by omega)
  have frg := Fr.made (q := 3) (o := o2) (3, 1) ((Below.refl w4.heap.size w4).alloc (Nat.le_refl _) (.cells #[.pointer (some ⟨fb, 0, none⟩), .pointer (some ⟨wb, 0, none⟩), .slice none 0 0, .slice none 0 0] 44)) hcl
  refine ⟨w4.heap.size, fb, wb, upd o2 w4.heap.size (3, 1), rfl, ⟨⟨Blk.made w4 _ _, upd_same _ _ _, Row.nil _ _ _ _ _, Row.nil _ _ _ _ _, rfl, fun k hk => by simp at hk, fun k hk => by simp at hk⟩, hm4.fr frg (by omega), hr4.fr frg (by omega)⟩, hb4.alloc hb4.size _, fun g hg => ?_⟩
  rw [upd_other _ _ (by have := hb4.size; omega)]
  exact ht4 g hg
end Go.Proofs.YtmjnengplfoiiaaGreat
