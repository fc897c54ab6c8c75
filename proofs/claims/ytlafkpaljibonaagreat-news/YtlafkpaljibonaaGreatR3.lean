import Derived.Test.YtlafkpaljibonaaGreatR2
namespace Go.Proofs.YtlafkpaljibonaaGreat
open Go.RowKit

def RM.connOf (m : RM) (k : Nat) : Int := cond (m.live k) (m.key (m.slot k).key).conn (-1)
def RM.idOf (m : RM) (k : Nat) : Int := cond (m.live k) (m.key (m.slot k).key).id 0
def RM.slotV (m : RM) (n : Int) : Value := cond (isS n) (.agg #[.int .i64 (m.slot n.toNat).st, .bool (m.slot n.toNat).old, .int .i64 (m.slot n.toNat).served, .int .i64 (m.slot n.toNat).since, .int .i64 (m.connOf n.toNat), .int .i64 (m.idOf n.toNat)]) slotNil

theorem three_blks (w : World) (A B C : List Value) (T1 T2 T3 : TypeId) :
    let W := ((w.alloc (.cells A.toArray T1)).alloc (.cells B.toArray T2)).alloc (.cells C.toArray T3)
    Blk W w.heap.size T1 A ∧ Blk W (w.heap.size + 1) T2 B ∧ Blk W (w.heap.size + 1 + 1) T3 C ∧ Below w.heap.size w W := by
  intro W
  have e1 : (w.alloc (.cells A.toArray T1)).heap.size = w.heap.size + 1 := by simp
  have e2 : ((w.alloc (.cells A.toArray T1)).alloc (.cells B.toArray T2)).heap.size = w.heap.size + 1 + 1 := by simp
  have b1 := Blk.made w T1 A
  have b2 := Blk.made (w.alloc (.cells A.toArray T1)) T2 B
  have b3 := Blk.made ((w.alloc (.cells A.toArray T1)).alloc (.cells B.toArray T2)) T3 C
  rw [e1] at b2
  rw [e2] at b3
  have s1 := fun (x : World) (ob : Obj) => (Below.refl x.heap.size x).alloc (Nat.le_refl _) ob
  exact ⟨(b1.below (s1 _ _)).below (s1 _ _), b2.below (s1 _ _), b3, ((Below.refl _ _).alloc (Nat.le_refl _) _ |>.alloc (by simp) _).alloc (by simp; omega) _⟩

section
variable {o : Nat → Tag} {q : Nat} {w : World} {b : Nat} {m : RM} {lv : Nat → Value} {kv qv : Value}

set_option maxRecDepth 100000 in
set_option maxHeartbeats 2000000 in
theorem rSlot_any (h : RMem o q w b m lv kv qv) (hwf : m.wf) (hlv : ∀ k, k < 6 → m.live k = false) (n : Int) :
    Calls Tryz.prog 38 #[.pointer (some ⟨b, 0, none⟩), .int .i64 n] w fun r w' => r = .returned (.tuple #[m.slotV n, .int .i64 (slotE n)]) ∧ Below w.heap.size w w' := by
  rcases isS_cases n with h0 | ⟨h0, k, hk, rfl⟩
  · simp only [RM.slotV, slotE, h0, cond_false]
    go_enter Tryz.func38, Tryz.ntmps38
    go_wp2_with fail
    refine (rIsSlot_any _ _).mono ?_
    rintro e w1 ⟨rfl, rfl⟩
    rw [h0]
    go_wp2
    exact bodyPost_ret (v := .tuple #[slotNil, .int .i64 5]) (by simp [results, Tryz.results38, go_sem, slotNil]) rfl ⟨rfl, (Below.refl _ _).alloc (Nat.le_refl _) _⟩
  · simp only [RM.slotV, slotE, h0, cond_true, Int.toNat_natCast]
    have hA := fun ob => (h.alloc ob).slotc hk
    have c0 := fun ob => (hA ob).1
    have c1 := fun ob => (hA ob).2.1
    have c2 := fun ob => (hA ob).2.2.1
    have c3 := fun ob => (hA ob).2.2.2.1
    have c4 := fun ob => (hA ob).2.2.2.2
    clear hA
    cases hlive : m.live k
    · simp only [RM.connOf, RM.idOf, hlive, cond_false]
      have hc : Hid (∀ w', RMem o q w' b m lv kv qv → Calls Tryz.prog 59 #[.pointer (some ⟨b, 0, none⟩), .int .i64 k] w' fun r w'' => r = .returned (.bool false) ∧ Below w'.heap.size w' w'') := fun w' h' => hlive ▸ live_any h' hwf k hk
      go_enter Tryz.func38, Tryz.ntmps38
      go_wp2_with fail
      refine (rIsSlot_any _ _).mono ?_
      rintro e w1 ⟨rfl, rfl⟩
      rw [h0]
      go_wp2_with fail
      refine (hc.out _ (((h.alloc _).alloc _).alloc _)).mono ?_
      rintro e w2 ⟨rfl, hb⟩
      obtain ⟨k0, k1, k2, kb⟩ := three_blks w [.int .i64 0, .bool false, .int .i64 0, .int .i64 0, .int .i64 0, .int .i64 0] [.int .i64 (m.slot k).st, .int .i64 (m.slot k).served, .int .i64 (m.slot k).since, .bool (m.slot k).old, .int .i64 (m.slot k).key] [.int .i64 (m.slot k).st, .bool (m.slot k).old, .int .i64 (m.slot k).served, .int .i64 (m.slot k).since, .int .i64 (-1), .int .i64 0] 59 71 59
      have j0 := k0.below hb
      have j2 := k2.below hb
      have hbb : Below w.heap.size w w2 := kb.trans (hb.mono (by simp; omega))
      clear k0 k1 k2 kb hb c0 c1 c2 c3 c4 hc
      have a0 := j2.cell (k := 0) rfl
      have a1 := j2.cell (k := 1) rfl
      have a2 := j2.cell (k := 2) rfl
      have a3 := j2.cell (k := 3) rfl
      have a4 := j2.cell (k := 4) rfl
      have a5 := j2.cell (k := 5) rfl
      have d0 := j0.cell (k := 0) rfl
      have d1 := j0.cell (k := 1) rfl
      have d2 := j0.cell (k := 2) rfl
      have d3 := j0.cell (k := 3) rfl
      have d4 := j0.cell (k := 4) rfl
      have d5 := j0.cell (k := 5) rfl
      have fz := j0.frozen
      go_wp2
      refine bodyPost_ret (v := .tuple #[.agg #[.int .i64 (m.slot k).st, .bool (m.slot k).old, .int .i64 (m.slot k).served, .int .i64 (m.slot k).since, .int .i64 (-1), .int .i64 0], .int .i64 0]) (by simp [results, Tryz.results38, go_sem, d0, d1, d2, d3, d4, d5]) rfl ⟨rfl, ?_⟩
      repeat (first | refine Below.setCell ?_ (by simp) _ | exact hbb)
    · rw [hlv k hk] at hlive; cases hlive
end
end Go.Proofs.YtlafkpaljibonaaGreat
