import Derived.Test.YtlafkpaljibonaaJ5
import Derived.Test.YtlafkpaljibonaaJ1
import Derived.Test.YtlafkpaljibonaaJ4
import Derived.Test.YtlafkpaljibonaaJ2
namespace Go.Proofs.Ytlafkpaljibonaa
open Go.RowKit

section
variable {o o' : Nat → Tag} {q : Nat} {w w' : World} {b : Nat} {m : PM} {sv : Nat → Value} {rv : Value}

theorem Fr.setNew (h : Fr q o w o' w') {g : Nat} (hg : w.heap.size ≤ g) (j : Nat) (u : Value) : Fr q o w o' (w'.setCell ⟨g, j, none⟩ u) :=
  ⟨h.os, h.tape, h.output, by simpa [World.setCell] using h.size, h.clean.le (by simp [World.setCell]), h.tags, fun x hx hq => (Below.heap_setCell _ _ _ x (by simp; omega)).trans (h.block x hx hq)⟩

theorem FMem.setFar (h : FMem o q w b m sv rv) {g : Nat} (hg : (o g).1 ≠ q) (j : Nat) (u : Value) : FMem o q (w.setCell ⟨g, j, none⟩ u) b m sv rv := by
  have hs : (w.setCell ⟨g, j, none⟩ u).heap.size = w.heap.size := by simp [World.setCell]
  have hne : ∀ x, (o x).1 = q → (w.setCell ⟨g, j, none⟩ u).heap[x]? = w.heap[x]? := fun x hx => Below.heap_setCell _ _ _ x (by rintro rfl; exact hg hx)
  exact ⟨h.clean.le (Nat.le_of_eq hs.symm), h.tag, h.blk.keep (hne b (by rw [h.tag])), fun k hk => (h.sent k hk).keep (fun _ _ => rfl) fun x _ hx => hne x (by rw [hx]), h.reqs.keep (fun _ _ => rfl) fun x _ hx => hne x (by rw [hx]), h.few⟩

def PM.killAt (m : PM) : Option Nat → PM
  | some k => m.kill k
  | none => m
def PM.abort (m : PM) (k : Nat) (i : Int) : PM :=
  match m.find k i with
  | some _ => (m.killAt (m.slotOf k i)).endKey k i 5
  | none => m

theorem killAt_same (m : PM) (x : Option Nat) : (m.killAt x).con = m.con ∧ (m.killAt x).req = m.req := by
  cases x <;> exact ⟨rfl, rfl⟩

set_option maxRecDepth 100000 in
set_option maxHeartbeats 2000000 in
theorem abort_any (h : FMem o q w b m sv rv) (hq : q ≠ 0) (k : Nat) (hk : k < 4) (i : Int) (hs : (m.con k).sent.length ≤ 1000000000000) (hmax : m.req.length ≤ 100000000000) :
    Calls Try.prog 107 #[.pointer (some ⟨b, 0, none⟩), .agg #[.int .i64 k, .int .i64 i]] w fun r w' => r = .returned (.tuple #[]) ∧ ∃ o' sv' rv', FMem o' q w' b (m.abort k i) sv' rv' ∧ Fr q o w o' w' := by
  have kf : Hid (∀ w', FMem o q w' b m sv rv → Calls Try.prog 104 #[.pointer (some ⟨b, 0, none⟩), .agg #[.int .i64 k, .int .i64 i]] w' fun r w'' => r = .returned (fwV (m.find k i)) ∧ Below w'.heap.size w' w'') := fun w' h' => find_any h' k i
  have ks : Hid (∀ w', FMem o q w' b m sv rv → Calls Try.prog 111 #[.pointer (some ⟨b, 0, none⟩), .agg #[.int .i64 k, .int .i64 i]] w' fun r w'' => r = .returned (fwV (m.slotOf k i)) ∧ Below w'.heap.size w' w'') := fun w' h' => slotOf_any h' k i
  have x0 := Blk.made w 109 [.int .i64 k, .int .i64 i]
  have hb0 : Below w.heap.size w (w.alloc (.cells #[.int .i64 k, .int .i64 i] 109)) := (Below.refl _ _).alloc (Nat.le_refl _) _
  have hA := h.below hb0
  have frA := Fr.of_below (q := q) h.clean hb0
  have hkey : o w.heap.size = (0, 0) := h.clean _ (Nat.le_refl _)
  unfold PM.abort
  cases hf : m.find k i with
  | none =>
    rw [hf] at kf
    unfold fwV at kf
    go_enter Try.func107, Try.ntmps107
    go_wp2_with fail
    refine (kf.out _ hA).mono ?_
    rintro e w1 ⟨rfl, hb1⟩
    go_wp2
    exact bodyPost_ret (v := .tuple #[]) (by simp [results, Try.results107, go_sem]) rfl ⟨rfl, o, sv, rv, hA.below hb1, frA.below hb1⟩
  | some a =>
    rw [hf] at kf
    unfold fwV at kf
    simp only
    have hks := killAt_same m (m.slotOf k i)
    have hk0 := m.slotFrom_lt k i 0 6
    change ∀ a, m.slotOf k i = some a → a < 0 + 6 at hk0
    cases hsl : m.slotOf k i with
    | none =>
      rw [hsl] at ks
      unfold fwV at ks
      simp only [PM.killAt]
      go_enter Try.func107, Try.ntmps107
      go_wp2_with fail
      refine (kf.out _ hA).mono ?_
      rintro e w1 ⟨rfl, hb1⟩
      have hm1 := hA.below hb1
      have x1 := x0.below hb1
      have y0 := x1.cell (k := 0) (u := .int .i64 k) rfl
      have y1 := x1.cell (k := 1) (u := .int .i64 i) rfl
      go_wp2_with fail
      refine (ks.out _ hm1).mono ?_
      rintro e w2 ⟨rfl, hb2⟩
      have hm2 := hm1.below hb2
      have x2 := x1.below hb2
      clear y0 y1
      have y0 := x2.cell (k := 0) (u := .int .i64 k) rfl
      have y1 := x2.cell (k := 1) (u := .int .i64 i) rfl
      go_wp2_with fail
      refine (end_any hm2 hq k hk i 5 (by omega) (by omega) hs (by omega)).mono ?_
      rintro e w3 ⟨rfl, o3, sv3, rv3, hm3, fr3⟩
      go_wp2
      exact bodyPost_end (v := .tuple #[]) (by simp [results, Try.results107, go_sem]) rfl ⟨rfl, o3, sv3, rv3, hm3, ((frA.below hb1).below hb2).trans fr3⟩
    | some c =>
      have hc : c < 6 := by have := hk0 c hsl; omega
      rw [hsl] at ks
      unfold fwV at ks
      simp only [PM.killAt]
      go_enter Try.func107, Try.ntmps107
      go_wp2_with fail
      refine (kf.out _ hA).mono ?_
      rintro e w1 ⟨rfl, hb1⟩
      have hm1 := hA.below hb1
      have x1 := x0.below hb1
      have y0 := x1.cell (k := 0) (u := .int .i64 k) rfl
      have y1 := x1.cell (k := 1) (u := .int .i64 i) rfl
      go_wp2_with fail
      refine (ks.out _ hm1).mono ?_
      rintro e w2 ⟨rfl, hb2⟩
      have hm2 := hm1.below hb2
      have x2 := x1.below hb2
      clear y0 y1
      go_wp2_with fail
      refine (kill_any hm2 c hc).mono ?_
      rintro e w3 ⟨rfl, hm3, fr3⟩
      have x3 : Blk w3 w.heap.size 109 [.int .i64 k, .int .i64 i] := x2.keep (fr3.block _ x2.lt (by rw [hkey]; exact fun e => hq e.symm))
      have y0 := x3.cell (k := 0) (u := .int .i64 k) rfl
      have y1 := x3.cell (k := 1) (u := .int .i64 i) rfl
      go_wp2_with fail
      refine (end_any hm3 hq k hk i 5 (by omega) (by omega) hs (by show m.req.length ≤ _; omega)).mono ?_
      rintro e w4 ⟨rfl, o4, sv4, rv4, hm4, fr4⟩
      go_wp2
      exact bodyPost_end (v := .tuple #[]) (by simp [results, Try.results107, go_sem]) rfl ⟨rfl, o4, sv4, rv4, hm4, (((frA.below hb1).below hb2).trans fr3).trans fr4⟩

def PM.enqueue (m : PM) (k : Nat) (i : Int) (body : ByteArray) : PM :=
  cond m.room { m with req := withoutL m.req k i ++ [⟨k, i, 1, body⟩] } (m.endKey k i 2)

set_option maxRecDepth 100000 in
set_option maxHeartbeats 4000000 in
theorem enqueue_any (h : FMem o q w b m sv rv) (hq : q ≠ 0) (k : Nat) (hk : k < 4) (i st : Int) (body : ByteArray) (hs : (m.con k).sent.length ≤ 1000000000000) (hmax : m.req.length ≤ 100000000000) :
    Calls Try.prog 112 #[.pointer (some ⟨b, 0, none⟩), .agg #[.int .i64 k, .int .i64 i, .int .i64 st, .string body]] w fun r w' => r = .returned (.tuple #[]) ∧ ∃ o' sv' rv', FMem o' q w' b (m.enqueue k i body) sv' rv' ∧ Fr q o w o' w' := by
  obtain ⟨i0, hi, hz0, hz1, hz2⟩ := info_parts infoReq
  unfold PM.enqueue
  have kr : Hid (∀ w', FMem o q w' b m sv rv → Calls Try.prog 113 #[.pointer (some ⟨b, 0, none⟩)] w' fun r w'' => r = .returned (.bool m.room) ∧ Below w'.heap.size w' w'') := fun w' h' => hasRoom_any h' (by omega)
  have x0 := Blk.made w 111 [.int .i64 k, .int .i64 i, .int .i64 st, .string body]
  have hb0 : Below w.heap.size w (w.alloc (.cells #[.int .i64 k, .int .i64 i, .int .i64 st, .string body] 111)) := (Below.refl _ _).alloc (Nat.le_refl _) _
  have hA := h.below hb0
  have frA := Fr.of_below (q := q) h.clean hb0
  have hkey : o w.heap.size = (0, 0) := h.clean _ (Nat.le_refl _)
  have hbn : b ≠ w.heap.size := by have := h.blk.lt; omega
  have hnb : w.heap.size ≠ b := fun e => hbn e.symm
  cases hroom : m.room
  · rw [hroom] at kr
    simp only [cond_false]
    go_enter Try.func112, Try.ntmps112
    go_wp2_with fail
    refine (kr.out _ hA).mono ?_
    rintro e w1 ⟨rfl, hb1⟩
    have x1 := x0.below hb1
    have y0 := x1.cell (k := 0) (u := .int .i64 k) rfl
    have y1 := x1.cell (k := 1) (u := .int .i64 i) rfl
    go_wp2_with fail
    refine (end_any (hA.below hb1) hq k hk i 2 (by omega) (by omega) hs (by omega)).mono ?_
    rintro e w2 ⟨rfl, o2, sv2, rv2, hm2, fr2⟩
    go_wp2
    exact bodyPost_ret (v := .tuple #[]) (by simp [results, Try.results112, go_sem]) rfl ⟨rfl, o2, sv2, rv2, hm2, (frA.below hb1).trans fr2⟩
  · rw [hroom] at kr
    simp only [cond_true]
    go_enter Try.func112, Try.ntmps112
    go_wp2_with fail
    refine (kr.out _ hA).mono ?_
    rintro e w1 ⟨rfl, hb1⟩
    have x1 := x0.below hb1
    have c2 := x1.cell (k := 2) (u := .int .i64 st) rfl
    have fz1 := x1.frozen
    have hm1 := (hA.below hb1).setFar (g := w.heap.size) (by rw [hkey]; exact fun e => hq e.symm) 2 (.int .i64 1)
    have fr1 := (frA.below hb1).setNew (Nat.le_refl _) 2 (.int .i64 1)
    have x2 := x1.set 2 (.int .i64 1)
    go_wp2_with fail
    generalize w1.setCell ⟨w.heap.size, 2, none⟩ (.int .i64 1) = w2 at *
    clear c2 fz1 x1 hb1 x0 hb0 hA frA kr
    have x2 : Blk w2 w.heap.size 111 [.int .i64 k, .int .i64 i, .int .i64 1, .string body] := x2
    have xlt := x2.lt
    have y0 := x2.cell (k := 0) (u := .int .i64 k) rfl
    have y1 := x2.cell (k := 1) (u := .int .i64 i) rfl
    have y2 := x2.cell (k := 2) (u := .int .i64 1) rfl
    have y3 := x2.cell (k := 3) (u := .string body) rfl
    have hmd := hm1.below (Below.refl _ _).drew
    have z0 := hmd.reqv
    refine wp_region_noPanic ?_
    refine wp_region_held_drew (S := fun w' => w'.cell? ⟨w.heap.size, 0, none⟩ = some (.int .i64 k) ∧ w'.cell? ⟨w.heap.size, 1, none⟩ = some (.int .i64 i) ∧ w'.cell? ⟨w.heap.size, 2, none⟩ = some (.int .i64 1) ∧ w'.cell? ⟨w.heap.size, 3, none⟩ = some (.string body)) (by kernel_rfl) ⟨y0, y1, y2, y3⟩ (fun hHeld => ?_)
    refine take_at (i := 0) (v := ?_) rfl (by kernel_rfl) (by kernel_rfl) (by kernel_rfl) (fun _ _ _ h => h) (by rfl) ?_ (by assumption) ?_
    rotate_left
    · (intro wx hSw; obtain ⟨x0, x1, x2, x3⟩ := hSw; go_simp; with_reducible rfl)
    simp only [Act.put, List.setIfInBounds_toArray, List.set_cons_zero, List.set_cons_succ]
    refine take_at (i := 1) (v := ?_) rfl (by kernel_rfl) (by kernel_rfl) (by kernel_rfl) (fun _ _ _ h => h) (by rfl) ?_ (by assumption) ?_
    rotate_left
    · (intro wx hSw; obtain ⟨x0, x1, x2, x3⟩ := hSw; go_simp; with_reducible rfl)
    simp only [Act.put, List.setIfInBounds_toArray, List.set_cons_zero, List.set_cons_succ]
    refine take_at (i := 2) (v := ?_) rfl (by kernel_rfl) (by kernel_rfl) (by kernel_rfl) (fun _ _ _ h => h) (by rfl) ?_ (by assumption) ?_
    rotate_left
    · (intro wx hSw; obtain ⟨x0, x1, x2, x3⟩ := hSw; go_simp; with_reducible rfl)
    simp only [Act.put, List.setIfInBounds_toArray, List.set_cons_zero, List.set_cons_succ]
    refine take_at (i := 3) (v := ?_) rfl (by kernel_rfl) (by kernel_rfl) (by kernel_rfl) (fun _ _ _ h => h) (by rfl) ?_ (by assumption) ?_
    rotate_left
    · (intro wx hSw; obtain ⟨x0, x1, x2, x3⟩ := hSw; go_simp; with_reducible rfl)
    simp only [Act.put, List.setIfInBounds_toArray, List.set_cons_zero, List.set_cons_succ]
    refine take_at (i := 5) (v := ?_) rfl (by kernel_rfl) (by kernel_rfl) (by kernel_rfl) (fun _ _ _ h => h) (by rfl) ?_ (by assumption) ?_
    rotate_left
    · (intro wx hSw; obtain ⟨x0, x1, x2, x3⟩ := hSw; go_simp; with_reducible rfl)
    simp only [Act.put, List.setIfInBounds_toArray, List.set_cons_zero, List.set_cons_succ]
    refine take_at (i := 6) (v := ?_) rfl (by kernel_rfl) (by kernel_rfl) (by kernel_rfl) (fun _ _ _ h => h) (by rfl) ?_ (by assumption) ?_
    rotate_left
    · (intro wx hSw; obtain ⟨x0, x1, x2, x3⟩ := hSw; go_simp; with_reducible rfl)
    simp only [Act.put, List.setIfInBounds_toArray, List.set_cons_zero, List.set_cons_succ]
    refine only_at (i := 4) rfl (by kernel_rfl) (by rfl) (fun K hK => ?_)
    go_simp
    refine hK.out _ _ ⟨y0, y1, y2, y3⟩ ?_
    clear hK K hHeld
    refine only_at (i := 7) rfl (by kernel_rfl) (by rfl) (fun K hK => ?_)
    go_simp
    refine (without_any _ _ _ hmd.reqsAt k i (by omega)).mono ?_
    rintro e w3 ⟨v, rfl, own3, hb3⟩
    obtain ⟨av, cv, hv, -, -⟩ := own_slice own3
    subst hv
    have hm3 := hmd.below hb3
    have x3 := (x2.below (Below.refl _ _).drew).below hb3
    have z3 := hm3.reqv
    have fz := hm3.frozen
    have hS3 : w3.cell? ⟨w.heap.size, 0, none⟩ = some (.int .i64 k) ∧ w3.cell? ⟨w.heap.size, 1, none⟩ = some (.int .i64 i) ∧ w3.cell? ⟨w.heap.size, 2, none⟩ = some (.int .i64 1) ∧ w3.cell? ⟨w.heap.size, 3, none⟩ = some (.string body) := ⟨x3.cell rfl, x3.cell rfl, x3.cell rfl, x3.cell rfl⟩
    refine hK.out _ _ hS3 ?_
    clear hK K y0 y1 y2 y3 z0
    refine take_at (i := 8) (v := ?_) rfl (by kernel_rfl) (by kernel_rfl) (by kernel_rfl) (fun _ _ _ h => h) (by rfl) ?_ (by assumption) ?_
    rotate_left
    · (intro wx hSw; obtain ⟨x0, x1, x2, x3⟩ := hSw; go_simp; with_reducible rfl)
    simp only [Act.put, List.setIfInBounds_toArray, List.set_cons_zero, List.set_cons_succ]
    refine take_at (i := 9) (v := ?_) rfl (by kernel_rfl) (by kernel_rfl) (by kernel_rfl) (fun _ _ _ h => h) (by rfl) ?_ (by assumption) ?_
    rotate_left
    · (intro wx hSw; obtain ⟨x0, x1, x2, x3⟩ := hSw; go_simp; with_reducible rfl)
    simp only [Act.put, List.setIfInBounds_toArray, List.set_cons_zero, List.set_cons_succ]
    refine only_at (i := 10) rfl (by kernel_rfl) (by rfl) (fun K hK => ?_)
    go_simp
    have x4 := x3.keep (w' := w3.setCell ⟨b, 20, none⟩ (.slice av (withoutL m.req k i).length cv)) (Below.heap_setCell _ _ _ _ (by simpa using hnb))
    refine hK.out _ _ ⟨x4.cell rfl, x4.cell rfl, x4.cell rfl, x4.cell rfl⟩ ?_
    clear hK K
    refine wpAnyH_done (by kernel_rfl) ?_ _
    refine NoPanic.normal ?_
    obtain ⟨o4, hm4, fr4⟩ := hmd.newReq hb3 _ (withoutL m.req k i) own3
    have hkey4 : o4 w.heap.size = (0, 0) := (fr4.tags _ xlt).trans hkey
    have frB := (fr1.below (Below.refl _ _).drew).trans fr4
    have hlen := withoutL_len m.req k i
    clear z3 fz hS3 own3 hb3 hm3 hmd hm1 x2 x3 fr1 fr4
    generalize w3.setCell ⟨b, 20, none⟩ (.slice av (withoutL m.req k i).length cv) = w4 at *
    generalize hLL : withoutL m.req k i = L at *
    have HLL : Hid _ := hLL
    clear hLL
    go_wp2_with fail
    have xlt4 := x4.lt
    have y0 := x4.cell (k := 0) (u := .int .i64 k) rfl
    have y1 := x4.cell (k := 1) (u := .int .i64 i) rfl
    have y2 := x4.cell (k := 2) (u := .int .i64 1) rfl
    have y3 := x4.cell (k := 3) (u := .string body) rfl
    have hmd := hm4.below (Below.refl _ _).drew
    have frd := frB.below (Below.refl _ _).drew
    have z0 := hmd.reqv
    have hrown := hmd.reqs.1
    have xA := (x4.below (Below.refl _ _).drew).below ((Below.refl _ _).alloc (Nat.le_refl _) (.cells #[.int .i64 k, .int .i64 i, .int .i64 1, .string body] 111))
    have hSA : (w4.drew.alloc (.cells #[.int .i64 k, .int .i64 i, .int .i64 1, .string body] 111)).cell? ⟨w.heap.size, 0, none⟩ = some (.int .i64 k) ∧ (w4.drew.alloc (.cells #[.int .i64 k, .int .i64 i, .int .i64 1, .string body] 111)).cell? ⟨w.heap.size, 1, none⟩ = some (.int .i64 i) ∧ (w4.drew.alloc (.cells #[.int .i64 k, .int .i64 i, .int .i64 1, .string body] 111)).cell? ⟨w.heap.size, 2, none⟩ = some (.int .i64 1) ∧ (w4.drew.alloc (.cells #[.int .i64 k, .int .i64 i, .int .i64 1, .string body] 111)).cell? ⟨w.heap.size, 3, none⟩ = some (.string body) := ⟨xA.cell rfl, xA.cell rfl, xA.cell rfl, xA.cell rfl⟩
    refine wp_region_noPanic ?_
    refine wp_region_held_drew (S := fun w' => w'.cell? ⟨w.heap.size, 0, none⟩ = some (.int .i64 k) ∧ w'.cell? ⟨w.heap.size, 1, none⟩ = some (.int .i64 i) ∧ w'.cell? ⟨w.heap.size, 2, none⟩ = some (.int .i64 1) ∧ w'.cell? ⟨w.heap.size, 3, none⟩ = some (.string body)) (by kernel_rfl) ⟨y0, y1, y2, y3⟩ (fun hHeld => ?_)
    refine take_at (i := 0) (v := ?_) rfl (by kernel_rfl) (by kernel_rfl) (by kernel_rfl) (fun _ _ _ h => h) (by rfl) ?_ (by assumption) ?_
    rotate_left
    · (intro wx hSw; obtain ⟨x0, x1, x2, x3⟩ := hSw; go_simp; with_reducible rfl)
    simp only [Act.put, List.setIfInBounds_toArray, List.set_cons_zero, List.set_cons_succ]
    refine take_at (i := 1) (v := ?_) rfl (by kernel_rfl) (by kernel_rfl) (by kernel_rfl) (fun _ _ _ h => h) (by rfl) ?_ (by assumption) ?_
    rotate_left
    · (intro wx hSw; obtain ⟨x0, x1, x2, x3⟩ := hSw; go_simp; with_reducible rfl)
    simp only [Act.put, List.setIfInBounds_toArray, List.set_cons_zero, List.set_cons_succ]
    refine take_at (i := 2) (v := ?_) rfl (by kernel_rfl) (by kernel_rfl) (by kernel_rfl) (fun _ _ _ h => h) (by rfl) ?_ (by assumption) ?_
    rotate_left
    · (intro wx hSw; obtain ⟨x0, x1, x2, x3⟩ := hSw; go_simp; with_reducible rfl)
    simp only [Act.put, List.setIfInBounds_toArray, List.set_cons_zero, List.set_cons_succ]
    refine take_at (i := 3) (v := ?_) rfl (by kernel_rfl) (by kernel_rfl) (by kernel_rfl) (fun _ _ _ h => h) (by rfl) ?_ (by assumption) ?_
    rotate_left
    · (intro wx hSw; obtain ⟨x0, x1, x2, x3⟩ := hSw; go_simp; with_reducible rfl)
    simp only [Act.put, List.setIfInBounds_toArray, List.set_cons_zero, List.set_cons_succ]
    refine take_at (i := 5) (v := ?_) rfl (by kernel_rfl) (by kernel_rfl) (by kernel_rfl) (fun _ _ _ h => h) (by rfl) ?_ (by assumption) ?_
    rotate_left
    · (intro wx hSw; obtain ⟨x0, x1, x2, x3⟩ := hSw; go_simp; with_reducible rfl)
    simp only [Act.put, List.setIfInBounds_toArray, List.set_cons_zero, List.set_cons_succ]
    refine two_at (i := 4) (j := 6) rfl rfl (by kernel_rfl) (by rfl) (by rfl) (fun K hK => ?_) (fun K hK => ?_)
    · go_simp
      refine hK.out _ _ ⟨y0, y1, y2, y3⟩ ?_
      clear hK K
      try simp only [Act.put, List.setIfInBounds_toArray, List.set_cons_zero, List.set_cons_succ]
      refine only_at (i := 6) rfl (by kernel_rfl) (by rfl) (fun K hK => ?_)
      go_simp
      refine hK.out _ _ hSA ?_
      clear hK K
      refine only_at (i := 7) rfl (by kernel_rfl) (by rfl) (fun K hK => ?_)
      refine wp_append_lies _ _ _ 98 rfl 0 111 i0 (.agg #[.int .i64 0, .int .i64 0, .int .i64 0, .string ⟨#[]⟩]) 4 40 Try.underlying98 hi hz0 hz1 hz2 rfl (by omega) (.slice av L.length cv) L.length (reqCells L) rfl (hrown.alloc _) ⟨w4.heap.size, 0, none⟩ 1 1 (reqCells [⟨k, i, 1, body⟩]) rfl rfl ?_ (reqCells_one _) (by omega) (by unfold maxLen; omega) (by omega) (Nat.zero_le _) _ rfl ?_
      · exact news_req w4.drew _ rfl ⟨k, i, 1, body⟩ _
      intro g5 c5 w5 own5 hg5 hat5 hlt5
      have hmA := hmd.alloc (.cells #[.int .i64 k, .int .i64 i, .int .i64 1, .string body] 111)
      have frC := frd.below (w2 := w4.drew.alloc (.cells #[.int .i64 k, .int .i64 i, .int .i64 1, .string body] 111)) ((Below.refl _ _).alloc (Nat.le_refl _) _)
      have own5' : w5.ownsRow 0 111 4 (.slice (some ⟨g5, 0, none⟩) (L.length + 1) c5) (L ++ [(⟨k, i, 1, body⟩ : Req)]).length (reqCells (L ++ [(⟨k, i, 1, body⟩ : Req)])) := by
        rw [reqCells_append, List.length_append]; exact own5
      have hat5' : (Value.slice av L.length cv).ownBlock = (Value.slice (some ⟨g5, 0, none⟩) (L.length + 1) c5).ownBlock ∨ (Value.slice (some ⟨g5, 0, none⟩) (L.length + 1) c5).ownBlock = some (w4.drew.alloc (.cells #[.int .i64 k, .int .i64 i, .int .i64 1, .string body] 111)).heap.size := by
        rcases hat5 with e | e
        · exact .inl e
        · right; rw [e]; rfl
      obtain ⟨o6, hm6, fr6⟩ := hmA.pushReq _ _ own5' hg5 hat5'
      have hnr : some w.heap.size ≠ (Value.slice av L.length cv).ownBlock := by
        intro e
        have := hmd.reqs.2 _ e.symm
        rw [hkey4] at this
        exact hq (congrArg Prod.fst this).symm
      have x5 : Blk w5 w.heap.size 111 [.int .i64 k, .int .i64 i, .int .i64 1, .string body] := x4.keep ((hg5.block _ (by simp; omega) hnr).trans (Below.heap_alloc _ _ _ xlt4))
      have nb : some b ≠ (Value.slice av L.length cv).ownBlock := by
        intro e
        have := hmd.reqs.2 _ e.symm
        rw [hmd.tag] at this
        simp at this
      have b5 : Blk w5 b _ _ := hmA.blk.keep (hg5.block b hmA.blk.lt nb)
      have z5 := b5.cell (k := 20) (u := .slice av L.length cv) rfl
      have fz5 := b5.frozen
      have hS5 : w5.cell? ⟨w.heap.size, 0, none⟩ = some (.int .i64 k) ∧ w5.cell? ⟨w.heap.size, 1, none⟩ = some (.int .i64 i) ∧ w5.cell? ⟨w.heap.size, 2, none⟩ = some (.int .i64 1) ∧ w5.cell? ⟨w.heap.size, 3, none⟩ = some (.string body) := ⟨x5.cell rfl, x5.cell rfl, x5.cell rfl, x5.cell rfl⟩
      refine hK.out _ _ hS5 ?_
      clear hK K
      try simp only [Act.put, List.setIfInBounds_toArray, List.set_cons_zero, List.set_cons_succ]
      refine take_at (i := 8) (v := ?_) rfl (by kernel_rfl) (by kernel_rfl) (by kernel_rfl) (fun _ _ _ h => h) (by rfl) ?_ (by assumption) ?_
      rotate_left
      · (intro wx hSw; obtain ⟨x0, x1, x2, x3⟩ := hSw; go_simp; with_reducible rfl)
      simp only [Act.put, List.setIfInBounds_toArray, List.set_cons_zero, List.set_cons_succ]
      refine take_at (i := 9) (v := ?_) rfl (by kernel_rfl) (by kernel_rfl) (by kernel_rfl) (fun _ _ _ h => h) (by rfl) ?_ (by assumption) ?_
      rotate_left
      · (intro wx hSw; obtain ⟨x0, x1, x2, x3⟩ := hSw; go_simp; with_reducible rfl)
      simp only [Act.put, List.setIfInBounds_toArray, List.set_cons_zero, List.set_cons_succ]
      refine only_at (i := 10) rfl (by kernel_rfl) (by rfl) (fun K hK => ?_)
      go_simp
      have x6 := x5.keep (w' := w5.setCell ⟨b, 20, none⟩ (.slice (some ⟨g5, 0, none⟩) (L.length + 1) c5)) (Below.heap_setCell _ _ _ _ (by simpa using hnb))
      refine hK.out _ _ ⟨x6.cell rfl, x6.cell rfl, x6.cell rfl, x6.cell rfl⟩ ?_
      clear hK K
      refine wpAnyH_done (by kernel_rfl) ?_ _
      refine NoPanic.normal ?_
      go_wp2
      refine bodyPost_end (v := .tuple #[]) (by simp [results, Try.results112, go_sem]) rfl ⟨rfl, ?_⟩
      rw [HLL.out]
      first | exact ⟨o6, sv, _, hm6, frC.trans fr6⟩ | exact ⟨o6, ⟨sv, _, hm6⟩, frC.trans fr6⟩
    · go_simp
      refine hK.out _ _ hSA ?_
      clear hK K
      try simp only [Act.put, List.setIfInBounds_toArray, List.set_cons_zero, List.set_cons_succ]
      have y2a := fun ob => (hm4.alloc ob).reqv
      refine only_at (i := 4) rfl (by kernel_rfl) (by rfl) (fun K hK => ?_)
      go_simp
      refine hK.out _ _ hSA ?_
      clear hK K
      refine only_at (i := 7) rfl (by kernel_rfl) (by rfl) (fun K hK => ?_)
      refine wp_append_lies _ _ _ 98 rfl 0 111 i0 (.agg #[.int .i64 0, .int .i64 0, .int .i64 0, .string ⟨#[]⟩]) 4 40 Try.underlying98 hi hz0 hz1 hz2 rfl (by omega) (.slice av L.length cv) L.length (reqCells L) rfl (hrown.alloc _) ⟨w4.heap.size, 0, none⟩ 1 1 (reqCells [⟨k, i, 1, body⟩]) rfl rfl ?_ (reqCells_one _) (by omega) (by unfold maxLen; omega) (by omega) (Nat.zero_le _) _ rfl ?_
      · exact news_req w4.drew _ rfl ⟨k, i, 1, body⟩ _
      intro g5 c5 w5 own5 hg5 hat5 hlt5
      have hmA := hmd.alloc (.cells #[.int .i64 k, .int .i64 i, .int .i64 1, .string body] 111)
      have frC := frd.below (w2 := w4.drew.alloc (.cells #[.int .i64 k, .int .i64 i, .int .i64 1, .string body] 111)) ((Below.refl _ _).alloc (Nat.le_refl _) _)
      have own5' : w5.ownsRow 0 111 4 (.slice (some ⟨g5, 0, none⟩) (L.length + 1) c5) (L ++ [(⟨k, i, 1, body⟩ : Req)]).length (reqCells (L ++ [(⟨k, i, 1, body⟩ : Req)])) := by
        rw [reqCells_append, List.length_append]; exact own5
      have hat5' : (Value.slice av L.length cv).ownBlock = (Value.slice (some ⟨g5, 0, none⟩) (L.length + 1) c5).ownBlock ∨ (Value.slice (some ⟨g5, 0, none⟩) (L.length + 1) c5).ownBlock = some (w4.drew.alloc (.cells #[.int .i64 k, .int .i64 i, .int .i64 1, .string body] 111)).heap.size := by
        rcases hat5 with e | e
        · exact .inl e
        · right; rw [e]; rfl
      obtain ⟨o6, hm6, fr6⟩ := hmA.pushReq _ _ own5' hg5 hat5'
      have hnr : some w.heap.size ≠ (Value.slice av L.length cv).ownBlock := by
        intro e
        have := hmd.reqs.2 _ e.symm
        rw [hkey4] at this
        exact hq (congrArg Prod.fst this).symm
      have x5 : Blk w5 w.heap.size 111 [.int .i64 k, .int .i64 i, .int .i64 1, .string body] := x4.keep ((hg5.block _ (by simp; omega) hnr).trans (Below.heap_alloc _ _ _ xlt4))
      have nb : some b ≠ (Value.slice av L.length cv).ownBlock := by
        intro e
        have := hmd.reqs.2 _ e.symm
        rw [hmd.tag] at this
        simp at this
      have b5 : Blk w5 b _ _ := hmA.blk.keep (hg5.block b hmA.blk.lt nb)
      have z5 := b5.cell (k := 20) (u := .slice av L.length cv) rfl
      have fz5 := b5.frozen
      have hS5 : w5.cell? ⟨w.heap.size, 0, none⟩ = some (.int .i64 k) ∧ w5.cell? ⟨w.heap.size, 1, none⟩ = some (.int .i64 i) ∧ w5.cell? ⟨w.heap.size, 2, none⟩ = some (.int .i64 1) ∧ w5.cell? ⟨w.heap.size, 3, none⟩ = some (.string body) := ⟨x5.cell rfl, x5.cell rfl, x5.cell rfl, x5.cell rfl⟩
      refine hK.out _ _ hS5 ?_
      clear hK K
      try simp only [Act.put, List.setIfInBounds_toArray, List.set_cons_zero, List.set_cons_succ]
      refine take_at (i := 8) (v := ?_) rfl (by kernel_rfl) (by kernel_rfl) (by kernel_rfl) (fun _ _ _ h => h) (by rfl) ?_ (by assumption) ?_
      rotate_left
      · (intro wx hSw; obtain ⟨x0, x1, x2, x3⟩ := hSw; go_simp; with_reducible rfl)
      simp only [Act.put, List.setIfInBounds_toArray, List.set_cons_zero, List.set_cons_succ]
      refine take_at (i := 9) (v := ?_) rfl (by kernel_rfl) (by kernel_rfl) (by kernel_rfl) (fun _ _ _ h => h) (by rfl) ?_ (by assumption) ?_
      rotate_left
      · (intro wx hSw; obtain ⟨x0, x1, x2, x3⟩ := hSw; go_simp; with_reducible rfl)
      simp only [Act.put, List.setIfInBounds_toArray, List.set_cons_zero, List.set_cons_succ]
      refine only_at (i := 10) rfl (by kernel_rfl) (by rfl) (fun K hK => ?_)
      go_simp
      have x6 := x5.keep (w' := w5.setCell ⟨b, 20, none⟩ (.slice (some ⟨g5, 0, none⟩) (L.length + 1) c5)) (Below.heap_setCell _ _ _ _ (by simpa using hnb))
      refine hK.out _ _ ⟨x6.cell rfl, x6.cell rfl, x6.cell rfl, x6.cell rfl⟩ ?_
      clear hK K
      refine wpAnyH_done (by kernel_rfl) ?_ _
      refine NoPanic.normal ?_
      go_wp2
      refine bodyPost_end (v := .tuple #[]) (by simp [results, Try.results112, go_sem]) rfl ⟨rfl, ?_⟩
      rw [HLL.out]
      first | exact ⟨o6, sv, _, hm6, frC.trans fr6⟩ | exact ⟨o6, ⟨sv, _, hm6⟩, frC.trans fr6⟩

end
end Go.Proofs.Ytlafkpaljibonaa

namespace Go.Proofs.Ytlafkpaljibonaa
open Go.RowKit

/-- A key that collects: its contents come to their end, or one more comes. -/
def PM.inAt (m : PM) (k : Nat) (i : Int) (c : ByteArray) (a : Nat) (r : Req) : PM :=
  cond (r.stage == 0) (cond (c.toList == []) (m.enqueue k i r.body) (cond (decide (500 < (r.body ++ c).size)) (m.endKey k i 4) { m with req := m.req.set a { r with body := r.body ++ c } })) m
def PM.in_ (m : PM) (k : Nat) (i : Int) (c : ByteArray) : PM :=
  match m.find k i with
  | some a => m.inAt k i c a (m.req.getD a noReq)
  | none => m

section
variable {o : Nat → Tag} {q : Nat} {w : World} {b : Nat} {m : PM} {sv : Nat → Value} {rv : Value}

set_option maxRecDepth 100000 in
set_option maxHeartbeats 4000000 in
theorem in_any (h : FMem o q w b m sv rv) (hq : q ≠ 0) (k : Nat) (hk : k < 4) (i : Int) (c : ByteArray) (hs : (m.con k).sent.length ≤ 1000000000000) (hmax : m.req.length ≤ 100000000000) (hc : c.size ≤ 1000000000) (hbd : ∀ r ∈ m.req, r.body.size ≤ 1000000000) :
    Calls Try.prog 106 #[.pointer (some ⟨b, 0, none⟩), .agg #[.int .i64 k, .int .i64 i], .string c] w fun r w' => r = .returned (.tuple #[]) ∧ ∃ o' sv' rv', FMem o' q w' b (m.in_ k i c) sv' rv' ∧ Fr q o w o' w' := by
  have kf : Hid (∀ w', FMem o q w' b m sv rv → Calls Try.prog 104 #[.pointer (some ⟨b, 0, none⟩), .agg #[.int .i64 k, .int .i64 i]] w' fun r w'' => r = .returned (fwV (m.find k i)) ∧ Below w'.heap.size w' w'') := fun w' h' => find_any h' k i
  have x0 := Blk.made w 109 [.int .i64 k, .int .i64 i]
  have hb0 : Below w.heap.size w (w.alloc (.cells #[.int .i64 k, .int .i64 i] 109)) := (Below.refl _ _).alloc (Nat.le_refl _) _
  have hA := h.below hb0
  have frA := Fr.of_below (q := q) h.clean hb0
  unfold PM.in_
  cases hf : m.find k i with
  | none =>
    rw [hf] at kf
    unfold fwV at kf
    simp only
    go_enter Try.func106, Try.ntmps106
    go_wp2_with fail
    refine (kf.out _ hA).mono ?_
    rintro e w1 ⟨rfl, hb1⟩
    go_wp2
    exact bodyPost_ret (v := .tuple #[]) (by simp [results, Try.results106, go_sem]) rfl ⟨rfl, o, sv, rv, hA.below hb1, frA.below hb1⟩
  | some a =>
    obtain ⟨hal, hconn, hid⟩ := m.find_some k i a hf
    rw [hf] at kf
    unfold fwV at kf
    simp only
    have hgd : m.req.getD a noReq = m.req[a] := by simp [List.getD, List.getElem?_eq_getElem hal]
    rw [hgd]
    have hbody := hbd m.req[a] (List.getElem_mem hal)
    unfold PM.inAt
    have hrow : ∀ w', FMem o q w' b m sv rv → ∃ g cp, rv = .slice (some ⟨g, 0, none⟩) m.req.length cp ∧ g < w'.heap.size ∧
        w'.cell? ⟨g, a * 4, none⟩ = some (.int .i64 m.req[a].conn) ∧ w'.cell? ⟨g, a * 4 + 1, none⟩ = some (.int .i64 m.req[a].id) ∧ w'.cell? ⟨g, a * 4 + 2, none⟩ = some (.int .i64 m.req[a].stage) ∧ w'.cell? ⟨g, a * 4 + 3, none⟩ = some (.string m.req[a].body) := by
      intro w' h'
      obtain ⟨g, cp, e, h1, -, -, hc⟩ := req_cells h' a hal
      exact ⟨g, cp, e, h1, hc⟩
    have HR : Hid _ := hrow
    have hset : Hid (∀ x : ByteArray, reqCells (m.req.set a { m.req[a] with body := x }) = (reqCells m.req).set (a * 4 + 3) (.string x)) := fun x => reqCells_body m.req a hal x
    clear hrow hbd hgd
    generalize hr : m.req[a] = r at *
    obtain ⟨rc, ri, rs, rb⟩ := r
    simp only at hconn hid hbody
    subst hconn hid
    clear hr
    by_cases h0 : rs = 0
    · subst h0
      simp only [beq_self_eq_true, cond_true]
      cases hE : (c.toList == [])
      · simp only [cond_false]
        by_cases h5 : 500 < (rb ++ c).size
        · simp only [h5, decide_true, cond_true]
          go_enter Try.func106, Try.ntmps106
          go_wp2_with fail
          refine (kf.out _ hA).mono ?_
          rintro e w1 ⟨rfl, hb1⟩
          have hm1 := hA.below hb1
          have x1 := x0.below hb1
          have fr1 := frA.below hb1
          obtain ⟨g, cp, hrv, hgl, c0, c1, c2, c3⟩ := HR.out _ hm1
          have z0 := hm1.reqv
          rw [hrv] at z0
          have halI : (a : Int) < m.req.length := by omega
          go_wp2_with fail
          refine (joined_any rb c _ (by omega) (by omega)).mono ?_
          rintro e w2 ⟨rfl, hb2⟩
          have hb2' : Below w1.heap.size w1 w2 := ((Below.refl _ _).alloc (Nat.le_refl _) _).trans (hb2.mono (by simp))
          have hm2 := hm1.below hb2'
          have x2 := x1.below hb2'
          have fr2 := fr1.below hb2'
          have y0 := x2.cell (k := 0) (u := .int .i64 k) rfl
          have y1 := x2.cell (k := 1) (u := .int .i64 ri) rfl
          have h5I : (500 : Int) < (rb.size : Int) + (c.size : Int) := by rw [ByteArray.size_append] at h5; omega
          clear c0 c1 c2 c3 z0
          go_wp2_with fail
          refine (end_any hm2 hq k hk ri 4 (by omega) (by omega) hs (by omega)).mono ?_
          rintro e w3 ⟨rfl, o3, sv3, rv3, hm3, fr3⟩
          go_wp2
          exact bodyPost_ret (v := .tuple #[]) (by simp [results, Try.results106, go_sem]) rfl ⟨rfl, o3, sv3, rv3, hm3, fr2.trans fr3⟩
        · simp only [h5, decide_false, cond_false]
          go_enter Try.func106, Try.ntmps106
          go_wp2_with fail
          refine (kf.out _ hA).mono ?_
          rintro e w1 ⟨rfl, hb1⟩
          have hm1 := hA.below hb1
          have x1 := x0.below hb1
          have fr1 := frA.below hb1
          obtain ⟨g, cp, hrv, hgl, c0, c1, c2, c3⟩ := HR.out _ hm1
          have z0 := hm1.reqv
          rw [hrv] at z0
          have halI : (a : Int) < m.req.length := by omega
          go_wp2_with fail
          refine (joined_any rb c _ (by omega) (by omega)).mono ?_
          rintro e w2 ⟨rfl, hb2⟩
          have hb2' : Below w1.heap.size w1 w2 := ((Below.refl _ _).alloc (Nat.le_refl _) _).trans (hb2.mono (by simp))
          have hm2 := hm1.below hb2'
          have fr2 := fr1.below hb2'
          have h5I : ¬ (500 : Int) < (rb.size : Int) + (c.size : Int) := by rw [ByteArray.size_append] at h5; omega
          clear c0 c1 c2 c3 z0
          obtain ⟨g', cp', hrv', hgl', c0, c1, c2, c3⟩ := HR.out _ hm2
          have z0 := hm2.reqv
          rw [hrv'] at z0
          subst hrv'
          have fg : ∀ j, w2.frozen? ⟨g', j, none⟩ = false := fun j => hm2.reqs.1.frozenAt j
          obtain ⟨hm3, fr3⟩ := hm2.setReq rfl (a * 4 + 3) (.string (rb ++ c)) _ (by simp) (hset.out (rb ++ c))
          go_wp2
          refine bodyPost_end (v := .tuple #[]) (by simp [results, Try.results106, go_sem]) rfl ⟨rfl, ?_⟩
          exact ⟨o, sv, _, hm3, fr2.trans fr3⟩
      · simp only [cond_true]
        go_enter Try.func106, Try.ntmps106
        go_wp2_with fail
        refine (kf.out _ hA).mono ?_
        rintro e w1 ⟨rfl, hb1⟩
        have hm1 := hA.below hb1
        have fr1 := frA.below hb1
        obtain ⟨g, cp, hrv, hgl, c0, c1, c2, c3⟩ := HR.out _ hm1
        have z0 := hm1.reqv
        rw [hrv] at z0
        have halI : (a : Int) < m.req.length := by omega
        go_wp2_with fail
        refine (enqueue_any (hm1.alloc _) hq k hk ri 0 rb hs hmax).mono ?_
        rintro e w3 ⟨rfl, o3, sv3, rv3, hm3, fr3⟩
        have frB := fr1.below ((Below.refl w1.heap.size w1).alloc (Nat.le_refl _) (.cells #[.int .i64 k, .int .i64 ri, .int .i64 0, .string rb] 111))
        go_wp2
        exact bodyPost_ret (v := .tuple #[]) (by simp [results, Try.results106, go_sem]) rfl ⟨rfl, o3, sv3, rv3, hm3, frB.trans fr3⟩
    · have h0' : (rs == 0) = false := by simpa using h0
      simp only [h0', cond_false]
      go_enter Try.func106, Try.ntmps106
      go_wp2_with fail
      refine (kf.out _ hA).mono ?_
      rintro e w1 ⟨rfl, hb1⟩
      have hm1 := hA.below hb1
      obtain ⟨g, cp, hrv, hgl, c0, c1, c2, c3⟩ := HR.out _ hm1
      have z0 := hm1.reqv
      rw [hrv] at z0
      have halI : (a : Int) < m.req.length := by omega
      go_wp2
      exact bodyPost_ret (v := .tuple #[]) (by simp [results, Try.results106, go_sem]) rfl ⟨rfl, o, sv, rv, hm1, frA.below hb1⟩

end
end Go.Proofs.Ytlafkpaljibonaa

namespace Go.Proofs.Ytlafkpaljibonaa
open Go.RowKit

def PM.take (m : PM) (k : Nat) (r : Rec) : PM :=
  if r.1 = 1 then m.begin_ k r.2.1 r.2.2 else if r.1 = 5 then m.in_ k r.2.1 r.2.2 else if r.1 = 2 then m.abort k r.2.1 else m

/-- Nothing has grown beyond R requests, S bytes sent, bodies of 1000 bytes. -/
structure PM.small (m : PM) (R S : Nat) : Prop where
  req : m.req.length ≤ R
  sent : ∀ k, k < 4 → (m.con k).sent.length ≤ S
  body : ∀ r ∈ m.req, r.body.size ≤ 1000

section
variable {m : PM} {R S : Nat}

theorem PM.small.mono (h : m.small R S) {R' S' : Nat} (hR : R ≤ R') (hS : S ≤ S') : m.small R' S' :=
  ⟨Nat.le_trans h.req hR, fun k hk => Nat.le_trans (h.sent k hk) hS, h.body⟩

theorem PM.small.of_eq {m' : PM} (h : m.small R S) (h1 : m'.req = m.req) (h2 : m'.con = m.con) : m'.small R S :=
  ⟨by rw [h1]; exact h.req, fun k hk => by rw [h2]; exact h.sent k hk, by rw [h1]; exact h.body⟩

theorem PM.small.drop (h : m.small R S) (c i : Int) : (m.drop c i).small R S := by
  have e : (m.drop c i).req = withoutL m.req c i := drop_req m c i
  have e2 : (m.drop c i).con = m.con := by unfold PM.drop; cases m.slotOf c i <;> rfl
  refine ⟨?_, fun k hk => by rw [e2]; exact h.sent k hk, ?_⟩
  · rw [e]; exact Nat.le_trans (withoutL_len _ _ _) h.req
  · rw [e]; intro r hr; exact h.body r (List.mem_filter.1 hr).1

theorem PM.small.sendB (h : m.small R S) (k : Nat) (s : ByteArray) (hs : s.size ≤ 208) : (m.sendB k s).small R (S + 208) := by
  refine ⟨h.req, fun j hj => ?_, h.body⟩
  by_cases e : j = k
  · subst e
    simp only [PM.sendB, upd_same, List.length_append, nums_length]
    have := h.sent j hj
    omega
  · simp only [PM.sendB, upd_other _ _ e]
    have := h.sent j hj
    omega

theorem PM.small.endKey (h : m.small R S) (k : Nat) (i st : Int) : (m.endKey k i st).small R (S + 208) :=
  (h.sendB k _ (encB_size _ _ _)).drop _ _

theorem PM.small.begin_ (h : m.small R S) (k : Nat) (i : Int) (role : ByteArray) : (m.begin_ k i role).small (R + 1) (S + 208) := by
  unfold PM.begin_
  cases (role.toList == [1])
  · exact (h.endKey k i 3).mono (by omega) (by omega)
  · cases decide ((m.keysOf k).length ≥ 4)
    · refine ⟨?_, fun j hj => Nat.le_trans (h.sent j hj) (by omega), ?_⟩
      · simp only [cond_false, cond_true, List.length_append, List.length_singleton]; have := h.req; omega
      · intro r hr
        simp only [cond_false, cond_true, List.mem_append, List.mem_singleton] at hr
        rcases hr with hr | rfl
        · exact h.body r hr
        · simp [newReq, ByteArray.size]
    · exact (h.endKey k i 2).mono (by omega) (by omega)

theorem PM.small.enqueue (h : m.small R S) (k : Nat) (i : Int) (body : ByteArray) (hb : body.size ≤ 1000) : (m.enqueue k i body).small (R + 1) (S + 208) := by
  unfold PM.enqueue
  cases m.room
  · exact (h.endKey k i 2).mono (by omega) (by omega)
  · refine ⟨?_, fun j hj => Nat.le_trans (h.sent j hj) (by omega), ?_⟩
    · have := withoutL_len m.req k i
      simp only [cond_true, List.length_append, List.length_singleton]; have := h.req; omega
    · intro r hr
      simp only [cond_true, List.mem_append, List.mem_singleton] at hr
      rcases hr with hr | rfl
      · exact h.body r (List.mem_filter.1 hr).1
      · exact hb

theorem PM.small.in_ (h : m.small R S) (k : Nat) (i : Int) (c : ByteArray) : (m.in_ k i c).small (R + 1) (S + 208) := by
  unfold PM.in_
  cases hf : m.find k i with
  | none => exact h.mono (by omega) (by omega)
  | some a =>
    obtain ⟨hal, -, -⟩ := m.find_some k i a hf
    have hgd : m.req.getD a noReq = m.req[a] := by simp [List.getD, List.getElem?_eq_getElem hal]
    simp only [hgd]
    unfold PM.inAt
    cases (m.req[a].stage == 0)
    · exact h.mono (by omega) (by omega)
    · cases (c.toList == [])
      · cases h5 : decide (500 < (m.req[a].body ++ c).size)
        · simp only [cond_true, cond_false]
          have h5' := of_decide_eq_false h5
          refine ⟨by simp only [List.length_set]; have := h.req; omega, fun j hj => Nat.le_trans (h.sent j hj) (by omega), ?_⟩
          intro r hr
          rcases List.mem_or_eq_of_mem_set hr with hr | rfl
          · exact h.body r hr
          · simp only; omega
        · exact (h.endKey k i 4).mono (by omega) (by omega)
      · exact h.enqueue k i _ (h.body _ (List.getElem_mem hal))

theorem PM.small.abort (h : m.small R S) (k : Nat) (i : Int) : (m.abort k i).small (R + 1) (S + 208) := by
  unfold PM.abort
  cases m.find k i with
  | none => exact h.mono (by omega) (by omega)
  | some a =>
    have hk := killAt_same m (m.slotOf k i)
    exact ((h.of_eq hk.2 hk.1).endKey k i 5).mono (by omega) (by omega)

theorem PM.small.take (h : m.small R S) (k : Nat) (r : Rec) : (m.take k r).small (R + 1) (S + 208) := by
  unfold PM.take
  split
  · exact h.begin_ k _ _
  · split
    · exact h.in_ k _ _
    · split
      · exact h.abort k _
      · exact h.mono (by omega) (by omega)

theorem startTo_same (m : PM) (u : Int) (k : Nat) : (startTo m u k).1.req = m.req ∧ (startTo m u k).1.con = m.con := by
  induction k with
  | zero => exact ⟨rfl, rfl⟩
  | succ k ih =>
    simp only [startTo]
    cases (decide ((startTo m u k).2 < m.set.ch) && ((startTo m u k).1.slot k).st == 0)
    · exact ih
    · exact ih

theorem PM.small.leaseAt (h : m.small R S) (k : Nat) : (m.leaseAt k).small R S := by
  unfold PM.leaseAt
  cases m.fw with
  | none => exact h
  | some a =>
    simp only
    cases ((m.slot k).st == 2)
    · exact h
    · simp only [cond_true]
      refine ⟨by simp only [PM.lease, List.length_set]; exact h.req, h.sent, ?_⟩
      intro r hr
      rcases List.mem_or_eq_of_mem_set hr with hr | rfl
      · exact h.body r hr
      · simp [ByteArray.size]

theorem PM.small.leaseTo (h : m.small R S) (k : Nat) : (m.leaseTo k).small R S := by
  induction k with
  | zero => exact h
  | succ k ih => exact ih.leaseAt k

theorem PM.small.settle (h : m.small R S) : m.settle.small R S := by
  unfold PM.settle PM.leaseWaiting
  refine PM.small.leaseTo ?_ 6
  cases m.set.dyn
  · exact h.of_eq (startTo_same _ _ _).1 (startTo_same _ _ _).2
  · exact h
end

section
variable {o : Nat → Tag} {q : Nat} {w : World} {b : Nat} {m : PM} {sv : Nat → Value} {rv : Value}

set_option maxRecDepth 100000 in
set_option maxHeartbeats 2000000 in
theorem take_any (h : FMem o q w b m sv rv) (hq : q ≠ 0) (k : Nat) (hk : k < 4) (r : Rec) (hc : r.2.2.size ≤ 1000000000) {R S : Nat} (hsm : m.small R S) (hR : R ≤ 100000000000) (hS : S ≤ 1000000000000) :
    Calls Try.prog 84 #[.pointer (some ⟨b, 0, none⟩), .agg #[.int .i64 k, .int .i64 r.2.1], .agg #[.int .i64 r.1, .int .i64 r.2.1, .string r.2.2]] w fun e w' => e = .returned (.tuple #[]) ∧ ∃ o' sv' rv', FMem o' q w' b (m.take k r) sv' rv' ∧ Fr q o w o' w' := by
  obtain ⟨kd, i, c⟩ := r
  simp only at hc
  have hs : (m.con k).sent.length ≤ 1000000000000 := Nat.le_trans (hsm.sent k hk) hS
  have hmax : m.req.length ≤ 100000000000 := Nat.le_trans hsm.req hR
  have hbd : ∀ r ∈ m.req, r.body.size ≤ 1000000000 := fun r hr => Nat.le_trans (hsm.body r hr) (by omega)
  have hb1 : Below w.heap.size w ((w.alloc (.cells #[.int .i64 k, .int .i64 i] 109)).alloc (.cells #[.int .i64 kd, .int .i64 i, .string c] 23)) := ((Below.refl _ _).alloc (Nat.le_refl _) _).alloc (by simp) _
  have hA := h.below hb1
  have frA := Fr.of_below (q := q) h.clean hb1
  unfold PM.take
  simp only
  by_cases h1 : kd = 1
  · subst h1
    simp only [if_true]
    go_enter Try.func84, Try.ntmps84
    go_wp2_with fail
    refine (begin_any hA hq k hk i c hs hmax).mono ?_
    rintro e w2 ⟨rfl, o2, sv2, rv2, hm2, fr2⟩
    go_wp2
    exact bodyPost_end (v := .tuple #[]) (by simp [results, Try.results84, go_sem]) rfl ⟨rfl, o2, sv2, rv2, hm2, frA.trans fr2⟩
  · by_cases h5 : kd = 5
    · subst h5
      rw [if_neg h1, if_pos rfl]
      go_enter Try.func84, Try.ntmps84
      go_wp2_with fail
      refine (in_any hA hq k hk i c hs hmax hc hbd).mono ?_
      rintro e w2 ⟨rfl, o2, sv2, rv2, hm2, fr2⟩
      go_wp2
      exact bodyPost_end (v := .tuple #[]) (by simp [results, Try.results84, go_sem]) rfl ⟨rfl, o2, sv2, rv2, hm2, frA.trans fr2⟩
    · by_cases h2 : kd = 2
      · subst h2
        rw [if_neg h1, if_neg h5, if_pos rfl]
        go_enter Try.func84, Try.ntmps84
        go_wp2_with fail
        refine (abort_any hA hq k hk i hs hmax).mono ?_
        rintro e w2 ⟨rfl, o2, sv2, rv2, hm2, fr2⟩
        go_wp2
        exact bodyPost_end (v := .tuple #[]) (by simp [results, Try.results84, go_sem]) rfl ⟨rfl, o2, sv2, rv2, hm2, frA.trans fr2⟩
      · rw [if_neg h1, if_neg h5, if_neg h2]
        go_enter Try.func84, Try.ntmps84
        go_wp2
        exact bodyPost_end (v := .tuple #[]) (by simp [results, Try.results84, go_sem]) rfl ⟨rfl, o, sv, rv, hA, frA⟩
end
end Go.Proofs.Ytlafkpaljibonaa

namespace Go.Proofs.Ytlafkpaljibonaa
open Go.RowKit

set_option maxRecDepth 100000 in
set_option maxHeartbeats 1000000 in
theorem mayCome_any (mk k i n p z : Int) (w : World) :
    Calls Try.prog 103 #[.agg #[.int .i64 mk, .int .i64 k, .int .i64 i, .int .i64 n, .int .i64 p, .int .i64 z]] w fun r w' => r = .returned (.bool (!wrongB k n)) ∧ Below w.heap.size w w' := by
  unfold wrongB
  by_cases h1 : k = 1
  · subst h1
    go_enter Try.func103, Try.ntmps103
    go_wp2
    go_ret
    exact ⟨by simp [bne], (Below.refl _ _).alloc (Nat.le_refl _) _⟩
  · by_cases h2 : k = 2
    · subst h2
      go_enter Try.func103, Try.ntmps103
      go_wp2
      go_ret
      exact ⟨by simp [bne], (Below.refl _ _).alloc (Nat.le_refl _) _⟩
    · rw [if_neg h1, if_neg h2]
      by_cases h5 : k = 5
      · subst h5
        go_enter Try.func103, Try.ntmps103
        go_wp2
        go_ret
        exact ⟨by simp, (Below.refl _ _).alloc (Nat.le_refl _) _⟩
      · go_enter Try.func103, Try.ntmps103
        go_wp2
        go_ret
        exact ⟨by simp [h5], (Below.refl _ _).alloc (Nat.le_refl _) _⟩

/-- 'FirstRequest' in one row. -/
def reqV (t : ByteArray) : Value :=
  if rcode true t = 2 then .tuple #[.agg #[.int .i64 (recT t).1, .int .i64 (recT t).2.1, .string (recT t).2.2], .int .i64 (sizeT t), .int .i64 0]
  else if rcode true t = 1 then .tuple #[nilRec, .int .i64 0, .int .i64 7] else .tuple #[nilRec, .int .i64 0, .int .i64 0]

theorem reqV_first {t : ByteArray} (h : wrongT t = false ∨ (t.size : Int) < 8) : reqV t = firstV t := by
  have : rcode true t = code t := by
    unfold rcode code stopT
    rcases h with h | h
    · simp [h]
    · simp [h]
  simp only [reqV, firstV, this]

theorem firstV_agg (t : ByteArray) : ∃ k i c n e, firstV t = .tuple #[.agg #[.int .i64 k, .int .i64 i, .string c], .int .i64 n, .int .i64 e] := by
  unfold firstV nilRec
  split
  · exact ⟨_, _, _, _, _, rfl⟩
  · split
    · exact ⟨_, _, _, _, _, rfl⟩
    · exact ⟨_, _, _, _, _, rfl⟩

set_option maxRecDepth 100000 in
set_option maxHeartbeats 2000000 in
theorem firstRequest_any (t : ByteArray) (w : World) (hmax : (t.size : Int) ≤ 1000000000000) :
    Calls Try.prog 82 #[.string t] w fun r w' => r = .returned (reqV t) ∧ Below w.heap.size w w' := by
  by_cases hs : (t.size : Int) < 8
  · rw [reqV_first (.inr hs)]
    have kf : Hid (∀ w, Calls Try.prog 72 #[.string t] w fun r w' => r = .returned (firstV t) ∧ Below w.heap.size w w') := fun w => first_any t w hmax
    obtain ⟨k, i, c, n, e, hV⟩ := firstV_agg t
    rw [hV] at kf ⊢
    go_enter Try.func82, Try.ntmps82
    go_wp2_with fail
    refine (readHead_no t _ hs).mono ?_
    rintro e1 w1 ⟨rfl, hb1⟩
    have j0 := (Blk.made w 23 [.int .i64 0, .int .i64 0, .string ⟨#[]⟩]).below hb1
    have hbw : Below w.heap.size w w1 := ((Below.refl _ _).alloc (Nat.le_refl _) _).trans (hb1.mono (by simp))
    clear hb1
    go_wp2_with fail
    refine (kf.out _).mono ?_
    rintro e2 w2 ⟨rfl, hb2⟩
    have hb2' : Below w1.heap.size w1 w2 := ((Below.refl _ _).alloc (Nat.le_refl _) _).trans (hb2.mono (by simp))
    have j2 := j0.below hb2'
    have hbw2 := hbw.trans (hb2'.mono hbw.size)
    clear j0 hb2 hb2' hbw
    have a0 := j2.cell (k := 0) (u := .int .i64 0) rfl
    have a1 := j2.cell (k := 1) (u := .int .i64 0) rfl
    have a2 := j2.cell (k := 2) (u := .string ⟨#[]⟩) rfl
    have fz := j2.frozen
    go_wp2
    refine bodyPost_ret (v := .tuple #[.agg #[.int .i64 k, .int .i64 i, .string c], .int .i64 n, .int .i64 e]) (by simp [results, Try.results82, go_sem, a0, a1, a2]) rfl ⟨rfl, ?_⟩
    repeat (first | refine Below.setCell ?_ (by simp) _ | exact hbw2)
  · have hs8 : 8 ≤ (t.size : Int) := by omega
    have km : Hid (∀ w, Calls Try.prog 103 #[.agg #[.int .i64 (byt t 0), .int .i64 (hKind t), .int .i64 (hId t), .int .i64 (hLen t), .int .i64 (hPad t), .int .i64 (byt t 7)]] w fun r w' => r = .returned (.bool (!wrongT t)) ∧ Below w.heap.size w w') := fun w => mayCome_any _ _ _ _ _ _ w
    have kh : Hid (∀ w, Calls Try.prog 97 #[.string t] w fun r w' => r = .returned (.tuple #[.agg #[.int .i64 (byt t 0), .int .i64 (hKind t), .int .i64 (hId t), .int .i64 (hLen t), .int .i64 (hPad t), .int .i64 (byt t 7)], .bool true]) ∧ Below w.heap.size w w') := fun w => readHead_yes' t w hs8 hmax
    generalize byt t 0 = h0 at *
    generalize hKind t = h1 at *
    generalize hId t = h2 at *
    generalize hLen t = h3 at *
    generalize hPad t = h4 at *
    generalize byt t 7 = h5 at *
    cases hw : wrongT t
    · rw [reqV_first (.inl hw)]
      rw [hw] at km
      have kf : Hid (∀ w, Calls Try.prog 72 #[.string t] w fun r w' => r = .returned (firstV t) ∧ Below w.heap.size w w') := fun w => first_any t w hmax
      obtain ⟨k, i, c, n, e, hV⟩ := firstV_agg t
      rw [hV] at kf ⊢
      clear hw
      go_enter Try.func82, Try.ntmps82
      go_wp2_with fail
      refine (kh.out _).mono ?_
      rintro e1 w1 ⟨rfl, hb1⟩
      have j0 := (Blk.made w 23 [.int .i64 0, .int .i64 0, .string ⟨#[]⟩]).below hb1
      have hbw : Below w.heap.size w w1 := ((Below.refl _ _).alloc (Nat.le_refl _) _).trans (hb1.mono (by simp))
      clear hb1
      go_wp2_with fail
      refine (km.out _).mono ?_
      rintro e2 w2 ⟨rfl, hb2⟩
      have hb2' : Below w1.heap.size w1 w2 := ((Below.refl _ _).alloc (Nat.le_refl _) _).trans (hb2.mono (by simp))
      have j2 := j0.below hb2'
      have hbw2 := hbw.trans (hb2'.mono hbw.size)
      clear j0 hb2 hb2' hbw
      go_wp2_with fail
      refine (kf.out _).mono ?_
      rintro e3 w3 ⟨rfl, hb3⟩
      have j3 := j2.below hb3
      have hbw3 := hbw2.trans (hb3.mono hbw2.size)
      clear j2 hb3 hbw2
      have a0 := j3.cell (k := 0) (u := .int .i64 0) rfl
      have a1 := j3.cell (k := 1) (u := .int .i64 0) rfl
      have a2 := j3.cell (k := 2) (u := .string ⟨#[]⟩) rfl
      have fz := j3.frozen
      go_wp2
      refine bodyPost_ret (v := .tuple #[.agg #[.int .i64 k, .int .i64 i, .string c], .int .i64 n, .int .i64 e]) (by simp [results, Try.results82, go_sem, a0, a1, a2]) rfl ⟨rfl, ?_⟩
      repeat (first | refine Below.setCell ?_ (by simp) _ | exact hbw3)
    · have hV : reqV t = .tuple #[nilRec, .int .i64 0, .int .i64 7] := by
        have : rcode true t = 1 := by simp [rcode, stopT, hw, hs]
        simp [reqV, this]
      rw [hV]
      rw [hw] at km
      unfold nilRec at *
      clear hw hV
      go_enter Try.func82, Try.ntmps82
      go_wp2_with fail
      refine (kh.out _).mono ?_
      rintro e1 w1 ⟨rfl, hb1⟩
      have j0 := (Blk.made w 23 [.int .i64 0, .int .i64 0, .string ⟨#[]⟩]).below hb1
      have hbw : Below w.heap.size w w1 := ((Below.refl _ _).alloc (Nat.le_refl _) _).trans (hb1.mono (by simp))
      clear hb1
      go_wp2_with fail
      refine (km.out _).mono ?_
      rintro e2 w2 ⟨rfl, hb2⟩
      have hb2' : Below w1.heap.size w1 w2 := ((Below.refl _ _).alloc (Nat.le_refl _) _).trans (hb2.mono (by simp))
      have j2 := j0.below hb2'
      have hbw2 := hbw.trans (hb2'.mono hbw.size)
      clear j0 hb2 hb2' hbw
      have a0 := j2.cell (k := 0) (u := .int .i64 0) rfl
      have a1 := j2.cell (k := 1) (u := .int .i64 0) rfl
      have a2 := j2.cell (k := 2) (u := .string ⟨#[]⟩) rfl
      have fz := j2.frozen
      go_wp2
      refine bodyPost_ret (v := .tuple #[.agg #[.int .i64 0, .int .i64 0, .string ⟨#[]⟩], .int .i64 0, .int .i64 7]) (by simp [results, Try.results82, go_sem, a0, a1, a2]) rfl ⟨rfl, ?_⟩
      repeat (first | refine Below.setCell ?_ (by simp) _ | exact hbw2)

end Go.Proofs.Ytlafkpaljibonaa
