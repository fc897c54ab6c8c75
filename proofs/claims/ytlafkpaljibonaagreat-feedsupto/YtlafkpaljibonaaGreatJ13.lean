import Derived.Test.YtlafkpaljibonaaGreatJ12
import Derived.Deep.LoopGhost
import Derived.Test.YtlafkpaljibonaaGreatJ11
namespace Go.Proofs.YtlafkpaljibonaaGreat
open Go.RowKit

/-- What a worker puts out, as records one behind the other. -/
def PM.outN (c : Nat) (i : Int) : Nat → PM → ByteArray → PM
  | 0, m, _ => m
  | f + 1, m, t => if t.size = 0 then m else PM.outN c i f (m.sendB c (encB 6 i (t.extract 0 (min t.size 200)))) (t.extract (min t.size 200) t.size)
def PM.sendOut (m : PM) (c : Nat) (i : Int) (s : ByteArray) : PM := PM.outN c i s.size m s

theorem PM.outN_nil (c : Nat) (i : Int) (f : Nat) (m : PM) (t : ByteArray) (h : t.size = 0) : PM.outN c i f m t = m := by
  cases f with
  | zero => rfl
  | succ f => simp [PM.outN, h]

theorem ba_nil_iff (t : ByteArray) : (t.toList == []) = decide (t.size = 0) := by
  rw [ByteArray.toList_eq, Bool.eq_iff_iff, beq_iff_eq, decide_eq_true_eq, ← List.length_eq_zero_iff]
  exact Iff.rfl

section
variable {o : Nat → Tag} {q : Nat} {w : World} {b : Nat} {m : PM} {sv : Nat → Value} {rv : Value}

set_option maxRecDepth 100000 in
set_option maxHeartbeats 4000000 in
theorem sendOut_any (h : FMem o q w b m sv rv) (hq : q ≠ 0) (c : Nat) (hc : c < 4) (i : Int) (s : ByteArray) (hs : s.size ≤ 1000000000) {S : Nat} (hS : S ≤ 100000000000) (hsent : (m.con c).sent.length ≤ S) :
    Calls Tryz.prog 89 #[.pointer (some ⟨b, 0, none⟩), .agg #[.int .i64 c, .int .i64 i], .string s] w fun r w' => r = .returned (.tuple #[]) ∧ ∃ o' sv', FMem o' q w' b (m.sendOut c i s) sv' rv ∧ Fr q o w o' w' := by
  have hb0 : Below w.heap.size w (w.alloc (.cells #[.int .i64 c, .int .i64 i] 89)) := (Below.refl _ _).alloc (Nat.le_refl _) _
  have x0 := Blk.made w 89 [.int .i64 c, .int .i64 i]
  have hcl := h.clean _ (Nat.le_refl w.heap.size)
  unfold PM.sendOut
  go_enter Tryz.func89, Tryz.ntmps89
  go_wp2_with fail
  have x1 : Blk (w.alloc (.cells #[.int .i64 c, .int .i64 i] 89)) w.heap.size 89 [.int .i64 c, .int .i64 i] := x0
  have hA := h.below hb0
  have frA := Fr.of_below (q := q) h.clean hb0
  have frR := Fr.refl (q := q) hA.clean
  clear x0 hb0 h
  generalize w.alloc (.cells #[.int .i64 c, .int .i64 i] 89) = w0 at *
  have hlt0 := x1.lt
  go_loopg [2, 6] s.size (fun g t _ w' => ∃ (T : ByteArray) (M : PM) (o' : Nat → Tag) (sv' : Nat → Value), t = .string T ∧ T.size ≤ g ∧ T.size ≤ s.size ∧ FMem o' q w' b M sv' rv ∧ Fr q o w0 o' w' ∧ Blk w' w.heap.size 89 [.int .i64 c, .int .i64 i] ∧ PM.outN c i s.size m s = PM.outN c i g M T ∧ (M.con c).sent.length ≤ S + 208 * (s.size - T.size))
  case atStart => exact ⟨s, m, o, sv, rfl, Nat.le_refl _, Nat.le_refl _, hA, frR, x1, rfl, by omega⟩
  case round =>
    obtain ⟨T, M, o1, sv1, rfl, hTg, hTs, hm, hfr, hbk, heq, hsn⟩ := hrel
    clear hA frR x1
    have HOWN : Hid ((o1 w.heap.size).1 ≠ q) := by show _ ≠ _; rw [hfr.tags _ hlt0, hcl]; exact fun e => hq e.symm
    have HE : Hid _ := heq
    clear heq
    have y0 := hbk.cell (k := 0) (u := .int .i64 c) rfl
    have y1 := hbk.cell (k := 1) (u := .int .i64 i) rfl
    by_cases hT : T.size = 0
    · have hfin : Hid (PM.outN c i s.size m s = M) := by show _ = _; rw [HE.out, PM.outN_nil _ _ _ _ _ hT]
      have hn : (T.toList == []) = true := by rw [ba_nil_iff]; simpa using hT
      clear HE hT
      go_wp2
      refine bodyPost_end (v := .tuple #[]) (by simp [results, Tryz.results89, go_sem]) rfl ⟨rfl, ?_⟩
      rw [hfin.out]
      exact ⟨o1, sv1, hm, frA.trans hfr⟩
    · have hn : (T.toList == []) = false := by rw [ba_nil_iff]; simpa using hT
      obtain ⟨g', hg'⟩ : ∃ g', gk = g' + 1 := ⟨gk - 1, by omega⟩
      have HV : Hid (PM.outN c i s.size m s = PM.outN c i g' (M.sendB c (encB 6 i (T.extract 0 (min T.size 200)))) (T.extract (min T.size 200) T.size)) := by
        show _ = _
        rw [HE.out, hg']
        simp [PM.outN, hT]
      have hgk : g' < gk := by omega
      clear HE
      have hbX := hbk
      have hmd := hm.below (Below.refl _ _).drew
      have henc := encB_size 6 i (T.extract 0 (min T.size 200))
      have hsn2 : (M.con c).sent.length ≤ 1000000000000 := by omega
      have hlen : ((M.sendB c (encB 6 i (T.extract 0 (min T.size 200)))).con c).sent.length ≤ S + 208 * (s.size - (T.extract (min T.size 200) T.size).size) := by
        simp only [PM.sendB, upd_same, List.length_append, nums_length, ByteArray.size_extract]
        omega
      have HLEN : Hid _ := hlen
      have hsz1 : (T.extract (min T.size 200) T.size).size ≤ g' := by rw [ByteArray.size_extract]; omega
      have hsz2 : (T.extract (min T.size 200) T.size).size ≤ s.size := by rw [ByteArray.size_extract]; omega
      have HSZ1 : Hid _ := hsz1
      have HSZ2 : Hid _ := hsz2
      clear hlen hsz1 hsz2 henc hg'
      have ks : Hid (∀ w' o' sv', FMem o' q w' b M sv' rv → ∀ t, Calls Tryz.prog 111 #[.pointer (some ⟨b, 0, none⟩), .int .i64 (c : Nat), .agg #[.int .i64 6, .int .i64 i, .string t]] w' fun r w'' => r = .returned (.tuple #[]) ∧ ∃ o'' sv'', FMem o'' q w'' b (M.sendB c (encB 6 i t)) sv'' rv ∧ Fr q o' w' o'' w'') := fun w' o' sv' h' t => send_any h' c hc 6 i t hsn2
      by_cases hbig : 200 < T.size
      · have hmin : min T.size 200 = 200 := by omega
        rw [hmin] at HV HLEN HSZ1 HSZ2
        have hbI : (200 : Int) < T.size := by omega
        have hbI2 : (200 : Int) ≤ T.size := by omega
        clear hmin
        go_wp2_with fail
        go_region_held3 (fun w' => w'.cell? ⟨w.heap.size, 0, none⟩ = some (.int .i64 (c : Nat)) ∧ w'.cell? ⟨w.heap.size, 1, none⟩ = some (.int .i64 i)) (first | exact ⟨y0, y1⟩ | exact ⟨z0, z1⟩) (first | (go_at_call 111; refine (ks.out _ _ _ hmd _).mono ?_; rintro e w2 ⟨rfl, o2, sv2, hm2, fr2⟩; have hbk2 : Blk w2 w.heap.size 89 [.int .i64 (c : Nat), .int .i64 i] := hbk.keep (fr2.block _ hbk.lt (HOWN.out)); have z0 := hbk2.cell (k := 0) (u := .int .i64 (c : Nat)) rfl; have z1 := hbk2.cell (k := 1) (u := .int .i64 i) rfl))
        have frB := (hfr.below (Below.refl _ _).drew).trans fr2
        clear y0 y1 z0 z1 hbk hm hfr hmd
        go_wp2
        go_roundg g'
        case measure => exact hgk
        case rel => exact ⟨T.extract 200 T.size, _, o2, sv2, rfl, HSZ1.out, HSZ2.out, hm2, frB, hbk2, HV.out, HLEN.out⟩
      · have hmin : min T.size 200 = T.size := by omega
        have e1 : T.extract 0 T.size = T := by simp
        have e2 : T.extract T.size T.size = ByteArray.empty := by simp
        rw [hmin, e1, e2] at HV HLEN
        rw [hmin, e2] at HSZ1 HSZ2
        clear e1 e2
        have hbI : ¬ (200 : Int) < T.size := by omega
        clear hmin
        go_wp2_with fail
        go_region_held3 (fun w' => w'.cell? ⟨w.heap.size, 0, none⟩ = some (.int .i64 (c : Nat)) ∧ w'.cell? ⟨w.heap.size, 1, none⟩ = some (.int .i64 i)) (first | exact ⟨y0, y1⟩ | exact ⟨z0, z1⟩) (first | (go_at_call 111; refine (ks.out _ _ _ hmd _).mono ?_; rintro e w2 ⟨rfl, o2, sv2, hm2, fr2⟩; have hbk2 : Blk w2 w.heap.size 89 [.int .i64 (c : Nat), .int .i64 i] := hbk.keep (fr2.block _ hbk.lt (HOWN.out)); have z0 := hbk2.cell (k := 0) (u := .int .i64 (c : Nat)) rfl; have z1 := hbk2.cell (k := 1) (u := .int .i64 i) rfl))
        have frB := (hfr.below (Below.refl _ _).drew).trans fr2
        clear y0 y1 z0 z1 hbk hm hfr hmd
        go_wp2
        go_roundg g'
        case measure => exact hgk
        case rel => exact ⟨ByteArray.empty, _, o2, sv2, rfl, HSZ1.out, HSZ2.out, hm2, frB, hbk2, HV.out, HLEN.out⟩


end
end Go.Proofs.YtlafkpaljibonaaGreat

namespace Go.Proofs.YtlafkpaljibonaaGreat
open Go.RowKit

theorem PM.stE_zero {m : PM} {n st : Int} (h : m.stE n st = 0) : ∃ k : Nat, k < 6 ∧ n = k ∧ (m.slot k).st = st := by
  rcases isS_cases n with h0 | ⟨h0, k, hk, rfl⟩
  · simp [PM.stE, h0] at h
  · refine ⟨k, hk, rfl, ?_⟩
    simp only [PM.stE, h0, cond_true, Int.toNat_natCast] at h
    cases hs : ((m.slot k).st == st)
    · rw [hs] at h; simp at h
    · simpa using hs

def PM.spawned (m : PM) (k : Nat) : PM := (cond (m.slot k).old (m.kill k) (m.becomesAt k 2)).settle
def PM.afterSpawned (m : PM) (n : Int) : PM := cond (m.stE n 1 == 0) (m.spawned n.toNat) m
def PM.outputs (m : PM) (k : Nat) (s : ByteArray) : PM := (cond ((m.slot k).conn != -1) (m.sendOut (m.slot k).conn.toNat (m.slot k).id s) m).settle
def PM.afterOutput (m : PM) (n : Int) (s : ByteArray) : PM := cond (m.stE n 3 == 0) (m.outputs n.toNat s) m
def PM.retires (m : PM) (k : Nat) : PM := cond (m.mustGo k) (m.kill k) (m.becomesAt k 2)
def PM.finished (m : PM) (k : Nat) : PM := ((m.endKeyOf k 0).retires k).settle
def PM.afterFinished (m : PM) (n : Int) : PM := cond (m.stE n 3 == 0) (m.finished n.toNat) m
def PM.diedE (m : PM) (n : Int) : Int := cond (isS n) (cond ((m.slot n.toNat).st == 0) 6 0) 5
def PM.empties (m : PM) (k : Nat) : PM := { m with slot := upd m.slot k (newSlot 0) }
def PM.died (m : PM) (k : Nat) : PM := ((m.endKeyOf k 1).empties k).settle
def PM.afterDied (m : PM) (n : Int) : PM := cond (m.diedE n == 0) (m.died n.toNat) m

section
variable {o : Nat → Tag} {q : Nat} {w : World} {b : Nat} {m : PM} {sv : Nat → Value} {rv : Value}

set_option maxRecDepth 100000 in
set_option maxHeartbeats 2000000 in
theorem spawned_any (h : FMem o q w b m sv rv) (n : Int) :
    Calls Tryz.prog 49 #[.pointer (some ⟨b, 0, none⟩), .int .i64 n] w fun r w' => r = .returned (.int .i64 (m.stE n 1)) ∧ FMem o q w' b (m.afterSpawned n) sv rv ∧ Fr q o w o w' := by
  have k1 : Hid (∀ w', FMem o q w' b m sv rv → Calls Tryz.prog 76 #[.pointer (some ⟨b, 0, none⟩), .int .i64 n, .int .i64 1] w' fun r w'' => r = .returned (.int .i64 (m.stE n 1)) ∧ w'' = w') := fun w' h' => checkState_any h' n 1
  unfold PM.afterSpawned
  by_cases he : m.stE n 1 = 0
  · obtain ⟨k, hk, rfl, -⟩ := PM.stE_zero he
    rw [he] at k1
    rw [he]
    simp only [beq_self_eq_true, cond_true, Int.toNat_natCast]
    clear he
    have hkI : (k : Int) < 6 := by omega
    obtain ⟨-, c1, -⟩ := h.slotc hk
    unfold PM.spawned
    cases ho : (m.slot k).old
    · rw [ho] at c1
      simp only [cond_false]
      clear ho
      go_enter Tryz.func49, Tryz.ntmps49
      go_wp2_with fail
      refine (k1.out _ h).mono ?_
      rintro e w1 ⟨rfl, rfl⟩
      go_wp2_with fail
      refine (becomes_any h k hk 2).mono ?_
      rintro e w2 ⟨rfl, hm2, fr2⟩
      clear c1
      go_wp2_with fail
      refine (settle_any hm2).mono ?_
      rintro e w3 ⟨rfl, hm3, fr3⟩
      go_wp2
      go_ret
      exact ⟨rfl, hm3, fr2.trans fr3⟩
    · rw [ho] at c1
      simp only [cond_true]
      clear ho
      go_enter Tryz.func49, Tryz.ntmps49
      go_wp2_with fail
      refine (k1.out _ h).mono ?_
      rintro e w1 ⟨rfl, rfl⟩
      go_wp2_with fail
      refine (kill_any h k hk).mono ?_
      rintro e w2 ⟨rfl, hm2, fr2⟩
      clear c1
      go_wp2_with fail
      refine (settle_any hm2).mono ?_
      rintro e w3 ⟨rfl, hm3, fr3⟩
      go_wp2
      go_ret
      exact ⟨rfl, hm3, fr2.trans fr3⟩
  · have he2 : (m.stE n 1 == 0) = false := by simpa using he
    simp only [he2, cond_false]
    generalize m.stE n 1 = E at *
    go_enter Tryz.func49, Tryz.ntmps49
    go_wp2_with fail
    refine (k1.out _ h).mono ?_
    rintro e w1 ⟨rfl, rfl⟩
    go_wp2
    go_ret
    exact ⟨rfl, h, Fr.refl h.clean⟩

set_option maxRecDepth 100000 in
set_option maxHeartbeats 2000000 in
theorem output_any (h : FMem o q w b m sv rv) (hq : q ≠ 0) (n : Int) (s : ByteArray) (hs : s.size ≤ 1000000000) {S : Nat} (hS : S ≤ 100000000000) (hsent : ∀ c, c < 4 → (m.con c).sent.length ≤ S) (hf : ∀ k, k < 6 → m.fair k) :
    Calls Tryz.prog 51 #[.pointer (some ⟨b, 0, none⟩), .int .i64 n, .string s] w fun r w' => r = .returned (.int .i64 (m.stE n 3)) ∧ ∃ o' sv', FMem o' q w' b (m.afterOutput n s) sv' rv ∧ Fr q o w o' w' := by
  have k1 : Hid (∀ w', FMem o q w' b m sv rv → Calls Tryz.prog 76 #[.pointer (some ⟨b, 0, none⟩), .int .i64 n, .int .i64 3] w' fun r w'' => r = .returned (.int .i64 (m.stE n 3)) ∧ w'' = w') := fun w' h' => checkState_any h' n 3
  unfold PM.afterOutput
  by_cases he : m.stE n 3 = 0
  · obtain ⟨k, hk, rfl, -⟩ := PM.stE_zero he
    rw [he] at k1
    rw [he]
    simp only [beq_self_eq_true, cond_true, Int.toNat_natCast]
    clear he
    have hkI : (k : Int) < 6 := by omega
    unfold PM.outputs
    rcases hf k hk with e | ⟨c, hc, e⟩
    · have hb : ((m.slot k).conn != -1) = false := by rw [e]; rfl
      have kk : Hid (∀ w', FMem o q w' b m sv rv → Calls Tryz.prog 88 #[.pointer (some ⟨b, 21 + k * 7, none⟩)] w' fun r w'' => r = .returned (.tuple #[.agg #[.int .i64 (-1), .int .i64 (m.slot k).id], .bool false]) ∧ Below w'.heap.size w' w'') := fun w' h' => by have := key_any h' k hk; rw [hb, e] at this; exact this
      rw [hb]
      simp only [cond_false]
      clear hb e
      go_enter Tryz.func51, Tryz.ntmps51
      go_wp2_with fail
      refine (k1.out _ h).mono ?_
      rintro e w1 ⟨rfl, rfl⟩
      go_wp2_with fail
      refine (kk.out _ h).mono ?_
      rintro e w2 ⟨rfl, hb2⟩
      have hm2 := h.below hb2
      have hb3 : Below w2.heap.size w2 (w2.alloc (.cells #[.int .i64 (-1), .int .i64 (m.slot k).id] 89)) := (Below.refl _ _).alloc (Nat.le_refl _) _
      go_wp2_with fail
      refine (settle_any (hm2.below hb3)).mono ?_
      rintro e w3 ⟨rfl, hm3, fr3⟩
      go_wp2
      go_ret
      exact ⟨rfl, o, sv, hm3, ((Fr.of_below (q := q) h.clean hb2).below hb3).trans fr3⟩
    · have hb : ((m.slot k).conn != -1) = true := by rw [e]; simp
      have kk : Hid (∀ w', FMem o q w' b m sv rv → Calls Tryz.prog 88 #[.pointer (some ⟨b, 21 + k * 7, none⟩)] w' fun r w'' => r = .returned (.tuple #[.agg #[.int .i64 (c : Nat), .int .i64 (m.slot k).id], .bool true]) ∧ Below w'.heap.size w' w'') := fun w' h' => by have := key_any h' k hk; rw [hb, e] at this; exact this
      rw [hb, e]
      simp only [cond_true, Int.toNat_natCast]
      clear hb e
      go_enter Tryz.func51, Tryz.ntmps51
      go_wp2_with fail
      refine (k1.out _ h).mono ?_
      rintro e w1 ⟨rfl, rfl⟩
      go_wp2_with fail
      refine (kk.out _ h).mono ?_
      rintro e w2 ⟨rfl, hb2⟩
      have hm2 := h.below hb2
      have hb3 : Below w2.heap.size w2 (w2.alloc (.cells #[.int .i64 c, .int .i64 (m.slot k).id] 89)) := (Below.refl _ _).alloc (Nat.le_refl _) _
      go_wp2_with fail
      refine (sendOut_any (hm2.below hb3) hq c hc (m.slot k).id s hs hS (hsent c hc)).mono ?_
      rintro e w3 ⟨rfl, o3, sv3, hm3, fr3⟩
      go_wp2_with fail
      refine (settle_any hm3).mono ?_
      rintro e w4 ⟨rfl, hm4, fr4⟩
      go_wp2
      go_ret
      exact ⟨rfl, o3, sv3, hm4, (((Fr.of_below (q := q) h.clean hb2).below hb3).trans fr3).trans fr4⟩
  · have he2 : (m.stE n 3 == 0) = false := by simpa using he
    simp only [he2, cond_false]
    generalize m.stE n 3 = E at *
    go_enter Tryz.func51, Tryz.ntmps51
    go_wp2_with fail
    refine (k1.out _ h).mono ?_
    rintro e w1 ⟨rfl, rfl⟩
    go_wp2
    go_ret
    exact ⟨rfl, o, sv, h, Fr.refl h.clean⟩

set_option maxRecDepth 100000 in
set_option maxHeartbeats 2000000 in
theorem finished_any (h : FMem o q w b m sv rv) (hq : q ≠ 0) (n : Int) (hsent : ∀ c, c < 4 → (m.con c).sent.length ≤ 1000000000000) (hmax : m.req.length ≤ 1000000000000) (hf : ∀ k, k < 6 → m.fair k) :
    Calls Tryz.prog 53 #[.pointer (some ⟨b, 0, none⟩), .int .i64 n] w fun r w' => r = .returned (.int .i64 (m.stE n 3)) ∧ ∃ o' sv' rv', FMem o' q w' b (m.afterFinished n) sv' rv' ∧ Fr q o w o' w' := by
  have k1 : Hid (∀ w', FMem o q w' b m sv rv → Calls Tryz.prog 76 #[.pointer (some ⟨b, 0, none⟩), .int .i64 n, .int .i64 3] w' fun r w'' => r = .returned (.int .i64 (m.stE n 3)) ∧ w'' = w') := fun w' h' => checkState_any h' n 3
  unfold PM.afterFinished
  by_cases he : m.stE n 3 = 0
  · obtain ⟨k, hk, rfl, -⟩ := PM.stE_zero he
    rw [he] at k1
    rw [he]
    simp only [beq_self_eq_true, cond_true, Int.toNat_natCast]
    clear he
    have hkI : (k : Int) < 6 := by omega
    unfold PM.finished
    have ke : Hid (∀ w', FMem o q w' b m sv rv → Calls Tryz.prog 91 #[.pointer (some ⟨b, 0, none⟩), .int .i64 (k : Nat), .int .i64 0] w' fun r w'' => r = .returned (.tuple #[]) ∧ ∃ o' sv' rv', FMem o' q w'' b (m.endKeyOf k 0) sv' rv' ∧ Fr q o w' o' w'') := fun w' h' => endKeyOf_any h' hq k hk (hf k hk) 0 (by omega) (by omega) hsent hmax
    generalize m.endKeyOf k 0 = M at *
    unfold PM.retires
    have kg : Hid (∀ o' sv' rv' w', FMem o' q w' b M sv' rv' → Calls Tryz.prog 92 #[.pointer (some ⟨b, 0, none⟩), .int .i64 (k : Nat)] w' fun r w'' => r = .returned (.bool (M.mustGo k)) ∧ Below w'.heap.size w' w'') := fun o' sv' rv' w' h' => mustGo_any h' k hk
    cases hg : M.mustGo k
    · rw [hg] at kg
      simp only [cond_false]
      clear hg
      go_enter Tryz.func53, Tryz.ntmps53
      go_wp2_with fail
      refine (k1.out _ h).mono ?_
      rintro e w1 ⟨rfl, rfl⟩
      go_wp2_with fail
      refine (ke.out _ h).mono ?_
      rintro e w2 ⟨rfl, o2, sv2, rv2, hm2, fr2⟩
      go_wp2_with fail
      refine (kg.out _ _ _ _ hm2).mono ?_
      rintro e w3 ⟨rfl, hb3⟩
      have hm3 := hm2.below hb3
      go_wp2_with fail
      refine (becomes_any hm3 k hk 2).mono ?_
      rintro e w4 ⟨rfl, hm4, fr4⟩
      go_wp2_with fail
      refine (settle_any hm4).mono ?_
      rintro e w5 ⟨rfl, hm5, fr5⟩
      go_wp2
      go_ret
      exact ⟨rfl, o2, sv2, rv2, hm5, ((fr2.below hb3).trans fr4).trans fr5⟩
    · rw [hg] at kg
      simp only [cond_true]
      clear hg
      go_enter Tryz.func53, Tryz.ntmps53
      go_wp2_with fail
      refine (k1.out _ h).mono ?_
      rintro e w1 ⟨rfl, rfl⟩
      go_wp2_with fail
      refine (ke.out _ h).mono ?_
      rintro e w2 ⟨rfl, o2, sv2, rv2, hm2, fr2⟩
      go_wp2_with fail
      refine (kg.out _ _ _ _ hm2).mono ?_
      rintro e w3 ⟨rfl, hb3⟩
      have hm3 := hm2.below hb3
      go_wp2_with fail
      refine (kill_any hm3 k hk).mono ?_
      rintro e w4 ⟨rfl, hm4, fr4⟩
      go_wp2_with fail
      refine (settle_any hm4).mono ?_
      rintro e w5 ⟨rfl, hm5, fr5⟩
      go_wp2
      go_ret
      exact ⟨rfl, o2, sv2, rv2, hm5, ((fr2.below hb3).trans fr4).trans fr5⟩
  · have he2 : (m.stE n 3 == 0) = false := by simpa using he
    simp only [he2, cond_false]
    generalize m.stE n 3 = E at *
    go_enter Tryz.func53, Tryz.ntmps53
    go_wp2_with fail
    refine (k1.out _ h).mono ?_
    rintro e w1 ⟨rfl, rfl⟩
    go_wp2
    go_ret
    exact ⟨rfl, o, sv, rv, h, Fr.refl h.clean⟩

set_option maxRecDepth 100000 in
set_option maxHeartbeats 4000000 in
theorem died_any (h : FMem o q w b m sv rv) (hq : q ≠ 0) (n : Int) (hsent : ∀ c, c < 4 → (m.con c).sent.length ≤ 1000000000000) (hmax : m.req.length ≤ 1000000000000) (hf : ∀ k, k < 6 → m.fair k) :
    Calls Tryz.prog 55 #[.pointer (some ⟨b, 0, none⟩), .int .i64 n] w fun r w' => r = .returned (.int .i64 (m.diedE n)) ∧ ∃ o' sv' rv', FMem o' q w' b (m.afterDied n) sv' rv' ∧ Fr q o w o' w' := by
  unfold PM.afterDied PM.diedE
  rcases isS_cases n with h0 | ⟨h0, k, hk, rfl⟩
  · simp only [h0, cond_false]
    go_enter Tryz.func55, Tryz.ntmps55
    go_wp2_with fail
    refine (isSlot_any _ _).mono ?_
    rintro e w1 ⟨rfl, rfl⟩
    rw [h0]
    go_wp2
    go_ret
    exact ⟨rfl, o, sv, rv, h, Fr.refl h.clean⟩
  · obtain ⟨c0, -⟩ := h.slotc hk
    have hkI : (k : Int) < 6 := by omega
    simp only [h0, cond_true, Int.toNat_natCast]
    by_cases hs : (m.slot k).st = 0
    · rw [hs] at c0
      simp only [hs, beq_self_eq_true, cond_true]
      clear hs
      go_enter Tryz.func55, Tryz.ntmps55
      go_wp2_with fail
      refine (isSlot_any _ _).mono ?_
      rintro e w1 ⟨rfl, rfl⟩
      rw [h0]
      go_wp2
      go_ret
      exact ⟨rfl, o, sv, rv, h, Fr.refl h.clean⟩
    · have hs2 : ((m.slot k).st == 0) = false := by simpa using hs
      simp only [hs2, cond_false, beq_self_eq_true, cond_true]
      unfold PM.died
      have ke : Hid (∀ w', FMem o q w' b m sv rv → Calls Tryz.prog 91 #[.pointer (some ⟨b, 0, none⟩), .int .i64 (k : Nat), .int .i64 1] w' fun r w'' => r = .returned (.tuple #[]) ∧ ∃ o' sv' rv', FMem o' q w'' b (m.endKeyOf k 1) sv' rv' ∧ Fr q o w' o' w'') := fun w' h' => endKeyOf_any h' hq k hk (hf k hk) 1 (by omega) (by omega) hsent hmax
      generalize m.endKeyOf k 1 = M at *
      unfold PM.empties
      generalize (m.slot k).st = st0 at *
      go_enter Tryz.func55, Tryz.ntmps55
      go_wp2_with fail
      refine (isSlot_any _ _).mono ?_
      rintro e w1 ⟨rfl, rfl⟩
      rw [h0]
      go_wp2_with fail
      refine (ke.out _ h).mono ?_
      rintro e w2 ⟨rfl, o2, sv2, rv2, hm2, fr2⟩
      clear c0 ke
      go_wp2_with fail
      have hmd := hm2.below (Below.refl _ _).drew
      go_region_held3 (fun w' => True) (trivial) (first | (go_at_call 30; refine (newPlace_any _ _).mono ?_; rintro e w3 ⟨rfl, hb3⟩; have hm3 := hmd.below hb3; obtain ⟨d0, d1, d2, d3, d4, d5, d6⟩ := hm3.slotc hk; have fz := hm3.frozen))
      have hm4 := hm3.putSlot hk (newSlot 0)
      have fr4 := hm3.fr_put hm4 (by simp [World.setCell]) (by simp [World.setCell]) (by simp [World.setCell]) (by simp [World.setCell]) (by intro g hg; repeat rw [Below.heap_setCell _ _ _ g (by simpa using hg)])
      have fr3 : Fr q o w1 o2 w3 := fr2.trans ((Fr.of_below hm2.clean (Below.refl _ _).drew).trans (Fr.of_below hmd.clean hb3))
      go_wp2_with fail
      refine (settle_any hm4).mono ?_
      rintro e w5 ⟨rfl, hm5, fr5⟩
      clear d0 d1 d2 d3 d4 d5 d6 fz
      go_wp2
      go_ret
      exact ⟨rfl, o2, sv2, rv2, hm5, (fr3.trans fr4).trans fr5⟩

end
end Go.Proofs.YtlafkpaljibonaaGreat

namespace Go.Proofs.YtlafkpaljibonaaGreat
open Go.RowKit

theorem RM.stE_zero {m : RM} {n st : Int} (h : m.stE n st = 0) : ∃ k : Nat, k < 6 ∧ n = k ∧ (m.slot k).st = st := by
  rcases isS_cases n with h0 | ⟨h0, k, hk, rfl⟩
  · simp [RM.stE, h0] at h
  · refine ⟨k, hk, rfl, ?_⟩
    simp only [RM.stE, h0, cond_true, Int.toNat_natCast] at h
    cases hs : ((m.slot k).st == st)
    · rw [hs] at h; simp at h
    · simpa using hs

theorem RM.wf_slotSt {m : RM} (hwf : m.wf) (k : Nat) (x : Int) (hx : x ≠ 3) : (m.slotSt k x).wf := by
  refine ⟨hwf.q, ?_, hwf.ch⟩
  intro j hj e
  by_cases ej : j = k
  · subst ej; simp [RM.slotSt] at e; exact absurd e hx
  · simp only [RM.slotSt, upd_other _ _ ej] at e ⊢
    exact hwf.s j hj e

theorem RM.wf_slotSince {m : RM} (hwf : m.wf) (k : Nat) (x : Int) : (m.slotSince k x).wf := by
  refine ⟨hwf.q, ?_, hwf.ch⟩
  intro j hj e
  by_cases ej : j = k
  · subst ej
    simp only [RM.slotSince, upd_same] at e ⊢
    exact hwf.s j hj e
  · simp only [RM.slotSince, upd_other _ _ ej] at e ⊢
    exact hwf.s j hj e

def RM.wakes (m : RM) (k : Nat) : RM := cond (m.slot k).old ((m.slotSt k 2).kill k) (m.slotSt k 2)
def RM.spawned (m : RM) (k : Nat) : RM := (m.wakes k).settle
def RM.afterSpawned (m : RM) (n : Int) : RM := cond (m.stE n 1 == 0) (m.spawned n.toNat) m
def RM.endOf (m : RM) (k : Nat) (st : Int) : RM := cond (m.live k) (m.endKey (m.slot k).key st) m
def RM.goes (m : RM) (k : Nat) : Bool := (m.slot k).old || (decide (0 < m.set.mr) && decide (m.set.mr ≤ (m.slot k).served))
def RM.retires (m : RM) (k : Nat) : RM := cond (m.goes k) (m.kill k) ((m.slotSt k 2).slotSince k 0)
def RM.finished (m : RM) (k : Nat) : RM := ((m.endOf k 0).retires k).settle
def RM.afterFinished (m : RM) (n : Int) : RM := cond (m.stE n 3 == 0) (m.finished n.toNat) m
def RM.diedE (m : RM) (n : Int) : Int := cond (isS n) (cond ((m.slot n.toNat).st == 0) 6 0) 5
def noSlot : RSlot := ⟨0, 0, 0, false, 0⟩
def RM.empties (m : RM) (k : Nat) : RM := { m with slot := upd m.slot k noSlot }
def RM.died (m : RM) (k : Nat) : RM := ((m.endOf k 1).empties k).settle
def RM.afterDied (m : RM) (n : Int) : RM := cond (m.diedE n == 0) (m.died n.toNat) m

theorem RM.wf_wakes {m : RM} (hwf : m.wf) (k : Nat) : (m.wakes k).wf := by
  unfold RM.wakes
  cases (m.slot k).old
  · exact RM.wf_slotSt hwf k 2 (by omega)
  · exact RM.wf_kill (RM.wf_slotSt hwf k 2 (by omega)) k
theorem RM.wf_endOf {m : RM} (hwf : m.wf) (k : Nat) (st : Int) : (m.endOf k st).wf := by
  unfold RM.endOf
  cases m.live k
  · exact hwf
  · exact RM.wf_over hwf _ _
theorem RM.wf_retires {m : RM} (hwf : m.wf) (k : Nat) : (m.retires k).wf := by
  unfold RM.retires
  cases m.goes k
  · exact RM.wf_slotSince (RM.wf_slotSt hwf k 2 (by omega)) k 0
  · exact RM.wf_kill hwf k
theorem RM.wf_empties {m : RM} (hwf : m.wf) (k : Nat) : (m.empties k).wf := by
  refine ⟨hwf.q, ?_, hwf.ch⟩
  intro j hj e
  by_cases ej : j = k
  · subst ej; simp [RM.empties, noSlot] at e
  · simp only [RM.empties, upd_other _ _ ej] at e ⊢
    exact hwf.s j hj e
theorem RM.endOf_same (m : RM) (k : Nat) (st : Int) : (m.endOf k st).slot = m.slot ∧ (m.endOf k st).set = m.set ∧ (m.endOf k st).queue = m.queue ∧ (m.endOf k st).time = m.time ∧ (m.endOf k st).keys.length = m.keys.length := by
  unfold RM.endOf
  cases m.live k
  · exact ⟨rfl, rfl, rfl, rfl, rfl⟩
  · exact ⟨rfl, rfl, rfl, rfl, by simp [RM.endKey, RM.over, RM.send]⟩
theorem RM.retires_same (m : RM) (k : Nat) : (m.retires k).set = m.set ∧ (m.retires k).queue = m.queue ∧ (m.retires k).time = m.time ∧ (m.retires k).keys = m.keys ∧ (m.retires k).line = m.line := by
  unfold RM.retires
  cases m.goes k <;> exact ⟨rfl, rfl, rfl, rfl, rfl⟩
theorem RM.wakes_same (m : RM) (k : Nat) : (m.wakes k).set = m.set ∧ (m.wakes k).queue = m.queue ∧ (m.wakes k).time = m.time ∧ (m.wakes k).keys = m.keys ∧ (m.wakes k).line = m.line := by
  unfold RM.wakes
  cases (m.slot k).old <;> exact ⟨rfl, rfl, rfl, rfl, rfl⟩

/-- A slot's key, if it has one, is of a connection that there is. -/
def RM.fair (m : RM) (k : Nat) : Prop := m.live k = true → ∃ c : Nat, c < 4 ∧ (m.key (m.slot k).key).conn = c

section
variable {o : Nat → Tag} {q : Nat} {w : World} {b : Nat} {m : RM} {lv : Nat → Value} {kv qv : Value}

theorem RMem.mrc (h : RMem o q w b m lv kv qv) : w.cell? ⟨b, 4, none⟩ = some (.int .i64 m.set.mr) := h.blk.cell rfl

set_option maxRecDepth 100000 in
set_option maxHeartbeats 2000000 in
theorem rSpawned_any (h : RMem o q w b m lv kv qv) (hwf : m.wf) (hmax : m.queue.length ≤ 1000000000000) (n : Int) :
    Calls Tryz.prog 50 #[.pointer (some ⟨b, 0, none⟩), .int .i64 n] w fun r w' => r = .returned (.int .i64 (m.stE n 1)) ∧ RMem o q w' b (m.afterSpawned n) lv kv qv ∧ Fr q o w o w' := by
  have k1 : Hid (∀ w', RMem o q w' b m lv kv qv → Calls Tryz.prog 77 #[.pointer (some ⟨b, 0, none⟩), .int .i64 n, .int .i64 1] w' fun r w'' => r = .returned (.int .i64 (m.stE n 1)) ∧ w'' = w') := fun w' h' => rState_any h' n 1
  unfold RM.afterSpawned
  by_cases he : m.stE n 1 = 0
  · obtain ⟨k, hk, rfl, -⟩ := RM.stE_zero he
    rw [he] at k1
    rw [he]
    simp only [beq_self_eq_true, cond_true, Int.toNat_natCast]
    clear he
    have hkI : (k : Int) < 6 := by omega
    have hw2 := RM.wf_wakes hwf k
    have hq2 : (m.wakes k).queue.length ≤ 1000000000000 := by rw [(m.wakes_same k).2.1]; exact hmax
    have ks : Hid (∀ w', RMem o q w' b (m.wakes k) lv kv qv → Calls Tryz.prog 32 #[.pointer (some ⟨b, 0, none⟩)] w' fun r w'' => r = .returned (.tuple #[]) ∧ RMem o q w'' b (m.wakes k).settle lv kv qv ∧ Fr q o w' o w'') := fun w' h' => rSettle_any h' hw2 hq2
    unfold RM.spawned
    obtain ⟨c0, -, -, c3, -⟩ := h.slotc hk
    have fz := h.frozen
    obtain ⟨hmA, frA⟩ := h.slotSt hk 2
    cases ho : (m.slot k).old
    · have hwk : Hid (m.wakes k = m.slotSt k 2) := by show _ = _; simp [RM.wakes, ho]
      rw [ho] at c3
      clear ho hw2 hq2
      go_enter Tryz.func50, Tryz.ntmps50
      go_wp2_with fail
      refine (k1.out _ h).mono ?_
      rintro e w1 ⟨rfl, rfl⟩
      go_wp2_with fail
      refine (ks.out _ (by rw [hwk.out]; exact hmA)).mono ?_
      rintro e w3 ⟨rfl, hm3, fr3⟩
      go_wp2
      go_ret
      exact ⟨rfl, hm3, frA.trans fr3⟩
    · have hwk : Hid (m.wakes k = (m.slotSt k 2).kill k) := by show _ = _; simp [RM.wakes, ho]
      rw [ho] at c3
      clear ho hw2 hq2
      go_enter Tryz.func50, Tryz.ntmps50
      go_wp2_with fail
      refine (k1.out _ h).mono ?_
      rintro e w1 ⟨rfl, rfl⟩
      go_wp2_with fail
      refine (rKill_any hmA k hk).mono ?_
      rintro e w2 ⟨rfl, hm2, fr2⟩
      clear c0 c3 fz
      go_wp2_with fail
      refine (ks.out _ (by rw [hwk.out]; exact hm2)).mono ?_
      rintro e w3 ⟨rfl, hm3, fr3⟩
      go_wp2
      go_ret
      exact ⟨rfl, hm3, (frA.trans fr2).trans fr3⟩
  · have he2 : (m.stE n 1 == 0) = false := by simpa using he
    simp only [he2, cond_false]
    generalize m.stE n 1 = E at *
    go_enter Tryz.func50, Tryz.ntmps50
    go_wp2_with fail
    refine (k1.out _ h).mono ?_
    rintro e w1 ⟨rfl, rfl⟩
    go_wp2
    go_ret
    exact ⟨rfl, h, Fr.refl h.clean⟩

set_option maxRecDepth 100000 in
set_option maxHeartbeats 8000000 in
theorem rFinished_any (h : RMem o q w b m lv kv qv) (hwf : m.wf) (hmax : m.queue.length ≤ 1000000000000) (n : Int) (hsent : ∀ c, c < 4 → (m.line c).sent.length ≤ 1000000000000) (hf : ∀ k, k < 6 → m.fair k) :
    Calls Tryz.prog 54 #[.pointer (some ⟨b, 0, none⟩), .int .i64 n] w fun r w' => r = .returned (.int .i64 (m.stE n 3)) ∧ ∃ o' lv', RMem o' q w' b (m.afterFinished n) lv' kv qv ∧ Fr q o w o' w' := by
  have k1 : Hid (∀ w', RMem o q w' b m lv kv qv → Calls Tryz.prog 77 #[.pointer (some ⟨b, 0, none⟩), .int .i64 n, .int .i64 3] w' fun r w'' => r = .returned (.int .i64 (m.stE n 3)) ∧ w'' = w') := fun w' h' => rState_any h' n 3
  unfold RM.afterFinished
  by_cases he : m.stE n 3 = 0
  · obtain ⟨k, hk, rfl, hst⟩ := RM.stE_zero he
    rw [he] at k1
    rw [he]
    simp only [beq_self_eq_true, cond_true, Int.toNat_natCast]
    clear he
    have hkI : (k : Int) < 6 := by omega
    have hkey := hwf.s k hk hst
    unfold RM.finished
    obtain ⟨e1, e2, e3, -, -⟩ := m.endOf_same k 0
    have hw2 := RM.wf_retires (RM.wf_endOf hwf k 0) k
    have hq2 : ((m.endOf k 0).retires k).queue.length ≤ 1000000000000 := by rw [((m.endOf k 0).retires_same k).2.1, e3]; exact hmax
    have ks : Hid (∀ o' lv' w', RMem o' q w' b ((m.endOf k 0).retires k) lv' kv qv → Calls Tryz.prog 32 #[.pointer (some ⟨b, 0, none⟩)] w' fun r w'' => r = .returned (.tuple #[]) ∧ RMem o' q w'' b ((m.endOf k 0).retires k).settle lv' kv qv ∧ Fr q o' w' o' w'') := fun o' lv' w' h' => rSettle_any h' hw2 hq2
    have hsl : ((m.endOf k 0).slot k) = m.slot k := by rw [e1]
    have hmr : (m.endOf k 0).set.mr = m.set.mr := by rw [e2]
    have HG : Hid ((m.endOf k 0).goes k = ((m.slot k).old || (decide (0 < m.set.mr) && decide (m.set.mr ≤ (m.slot k).served)))) := by show _ = _; unfold RM.goes; rw [hsl, hmr]
    have kl : Hid (∀ w', RMem o q w' b m lv kv qv → Calls Tryz.prog 59 #[.pointer (some ⟨b, 0, none⟩), .int .i64 (k : Nat)] w' fun r w'' => r = .returned (.bool (m.live k)) ∧ Below w'.heap.size w' w'') := fun w' h' => live_any h' hwf k hk
    have hfk := hf k hk
    unfold RM.fair at hfk
    have HEO : Hid (m.endOf k 0 = cond (m.live k) (m.endKey (m.slot k).key 0) m) := rfl
    clear e1 e2 e3 hw2 hq2 hf
    have HSL : Hid _ := hsl
    have HMR : Hid _ := hmr
    clear hsl hmr
    generalize m.endOf k 0 = M at *
    cases hlive : m.live k
    · rw [hlive] at kl HEO
      have hM : m = M := HEO.out.symm
      subst hM
      clear HEO hfk hlive HSL HMR
      have hkeyI : True := trivial
      cases hold : (m.slot k).old
      · by_cases h1 : 0 < m.set.mr
        · have g1 : decide (0 < m.set.mr) = true := by simpa using h1
          have g2 : decide (m.set.mr > 0) = true := g1
          by_cases h2 : m.set.mr ≤ (m.slot k).served
          · have g3 : decide (m.set.mr ≤ (m.slot k).served) = true := by simpa using h2
            have g4 : decide ((m.slot k).served ≥ m.set.mr) = true := g3
            have hret : Hid (m.retires k = m.kill k) := by show _ = _; unfold RM.retires; rw [HG.out, hold, g1, g3]; rfl
            go_enter Tryz.func54, Tryz.ntmps54
            go_wp2_with fail
            refine (k1.out _ h).mono ?_
            rintro e w1 ⟨rfl, rfl⟩
            go_wp2_with fail
            refine (kl.out _ h).mono ?_
            rintro e w2 ⟨rfl, hb2⟩
            have hm2 := h.below hb2
            have fr2 := Fr.of_below (q := q) h.clean hb2
            obtain ⟨w3, rfl⟩ : ∃ w3, w3 = w2 := ⟨_, rfl⟩
            have hm3 := hm2
            have fr3 := fr2
            obtain ⟨-, d1, -, d3, -⟩ := hm3.slotc hk
            have dm := hm3.mrc
            rw [hold] at d3
            go_wp2_with fail
            go_quiet (fail)
            have hmq : RMem o q (w3.drewN nq) b m lv kv qv := hm3.below (below_dN (Below.refl _ _))
            have frq := fr3.below (w2 := w3.drewN nq) (below_dN (Below.refl _ _))
            clear d1 d3 dm
            generalize w3.drewN nq = w4 at *
            go_wp2_with fail
            refine (rKill_any hmq k hk).mono ?_
            rintro e w5 ⟨rfl, hm5, fr5⟩
            go_wp2_with fail
            refine (ks.out _ _ _ (by rw [hret.out]; exact hm5)).mono ?_
            rintro e w6 ⟨rfl, hm6, fr6⟩
            go_wp2
            go_ret
            exact ⟨rfl, _, _, hm6, (frq.trans fr5).trans fr6⟩
          · have g3 : decide (m.set.mr ≤ (m.slot k).served) = false := by simpa using h2
            have g4 : decide ((m.slot k).served ≥ m.set.mr) = false := g3
            have hret : Hid (m.retires k = (m.slotSt k 2).slotSince k 0) := by show _ = _; unfold RM.retires; rw [HG.out, hold, g1, g3]; rfl
            go_enter Tryz.func54, Tryz.ntmps54
            go_wp2_with fail
            refine (k1.out _ h).mono ?_
            rintro e w1 ⟨rfl, rfl⟩
            go_wp2_with fail
            refine (kl.out _ h).mono ?_
            rintro e w2 ⟨rfl, hb2⟩
            have hm2 := h.below hb2
            have fr2 := Fr.of_below (q := q) h.clean hb2
            obtain ⟨w3, rfl⟩ : ∃ w3, w3 = w2 := ⟨_, rfl⟩
            have hm3 := hm2
            have fr3 := fr2
            obtain ⟨-, d1, -, d3, -⟩ := hm3.slotc hk
            have dm := hm3.mrc
            rw [hold] at d3
            go_wp2_with fail
            go_quiet (fail)
            have hmq : RMem o q (w3.drewN nq) b m lv kv qv := hm3.below (below_dN (Below.refl _ _))
            have frq := fr3.below (w2 := w3.drewN nq) (below_dN (Below.refl _ _))
            clear d1 d3 dm
            generalize w3.drewN nq = w4 at *
            obtain ⟨hmA, frA⟩ := hmq.slotSt hk 2
            obtain ⟨hmB, frB⟩ := hmA.slotSince hk 0
            obtain ⟨a0, -, -, -, -⟩ := hmq.slotc hk
            obtain ⟨-, -, a2, -, -⟩ := hmA.slotc hk
            have fz := hmq.frozen
            have fz2 := hmA.frozen
            go_wp2_with fail
            refine (ks.out _ _ _ (by rw [hret.out]; exact hmB)).mono ?_
            rintro e w6 ⟨rfl, hm6, fr6⟩
            clear a0 a2 fz fz2
            go_wp2
            go_ret
            exact ⟨rfl, _, _, hm6, ((frq.trans frA).trans frB).trans fr6⟩
        · have g1 : decide (0 < m.set.mr) = false := by simpa using h1
          have g2 : decide (m.set.mr > 0) = false := g1
          have hret : Hid (m.retires k = (m.slotSt k 2).slotSince k 0) := by show _ = _; unfold RM.retires; rw [HG.out, hold, g1]; rfl
          go_enter Tryz.func54, Tryz.ntmps54
          go_wp2_with fail
          refine (k1.out _ h).mono ?_
          rintro e w1 ⟨rfl, rfl⟩
          go_wp2_with fail
          refine (kl.out _ h).mono ?_
          rintro e w2 ⟨rfl, hb2⟩
          have hm2 := h.below hb2
          have fr2 := Fr.of_below (q := q) h.clean hb2
          obtain ⟨w3, rfl⟩ : ∃ w3, w3 = w2 := ⟨_, rfl⟩
          have hm3 := hm2
          have fr3 := fr2
          obtain ⟨-, d1, -, d3, -⟩ := hm3.slotc hk
          have dm := hm3.mrc
          rw [hold] at d3
          go_wp2_with fail
          go_quiet (fail)
          have hmq : RMem o q (w3.drewN nq) b m lv kv qv := hm3.below (below_dN (Below.refl _ _))
          have frq := fr3.below (w2 := w3.drewN nq) (below_dN (Below.refl _ _))
          clear d1 d3 dm
          generalize w3.drewN nq = w4 at *
          obtain ⟨hmA, frA⟩ := hmq.slotSt hk 2
          obtain ⟨hmB, frB⟩ := hmA.slotSince hk 0
          obtain ⟨a0, -, -, -, -⟩ := hmq.slotc hk
          obtain ⟨-, -, a2, -, -⟩ := hmA.slotc hk
          have fz := hmq.frozen
          have fz2 := hmA.frozen
          go_wp2_with fail
          refine (ks.out _ _ _ (by rw [hret.out]; exact hmB)).mono ?_
          rintro e w6 ⟨rfl, hm6, fr6⟩
          clear a0 a2 fz fz2
          go_wp2
          go_ret
          exact ⟨rfl, _, _, hm6, ((frq.trans frA).trans frB).trans fr6⟩
      · skip
        have hret : Hid (m.retires k = m.kill k) := by show _ = _; unfold RM.retires; rw [HG.out, hold]; rfl
        go_enter Tryz.func54, Tryz.ntmps54
        go_wp2_with fail
        refine (k1.out _ h).mono ?_
        rintro e w1 ⟨rfl, rfl⟩
        go_wp2_with fail
        refine (kl.out _ h).mono ?_
        rintro e w2 ⟨rfl, hb2⟩
        have hm2 := h.below hb2
        have fr2 := Fr.of_below (q := q) h.clean hb2
        obtain ⟨w3, rfl⟩ : ∃ w3, w3 = w2 := ⟨_, rfl⟩
        have hm3 := hm2
        have fr3 := fr2
        obtain ⟨-, d1, -, d3, -⟩ := hm3.slotc hk
        have dm := hm3.mrc
        rw [hold] at d3
        go_wp2_with fail
        go_quiet (fail)
        have hmq : RMem o q (w3.drewN nq) b m lv kv qv := hm3.below (below_dN (Below.refl _ _))
        have frq := fr3.below (w2 := w3.drewN nq) (below_dN (Below.refl _ _))
        clear d1 d3 dm
        generalize w3.drewN nq = w4 at *
        go_wp2_with fail
        refine (rKill_any hmq k hk).mono ?_
        rintro e w5 ⟨rfl, hm5, fr5⟩
        go_wp2_with fail
        refine (ks.out _ _ _ (by rw [hret.out]; exact hm5)).mono ?_
        rintro e w6 ⟨rfl, hm6, fr6⟩
        go_wp2
        go_ret
        exact ⟨rfl, _, _, hm6, (frq.trans fr5).trans fr6⟩
    · rw [hlive] at kl HEO
      obtain ⟨c, hc, hcn⟩ := hfk hlive
      rw [m.key_eq hkey] at hcn
      have ke : Hid (∀ w', RMem o q w' b m lv kv qv → Calls Tryz.prog 60 #[.pointer (some ⟨b, 0, none⟩), .int .i64 ((m.slot k).key : Nat), .int .i64 0] w' fun r w'' => r = .returned (.tuple #[]) ∧ ∃ o' lv', RMem o' q w'' b M lv' kv qv ∧ Fr q o w' o' w'') := fun w' h' => by have := rEnd_any h' (m.slot k).key hkey c hc hcn 0 (by omega) (by omega) (hsent c hc); rw [HEO.out]; exact this
      clear HEO hfk hlive hcn
      have hkeyI : True := trivial
      cases hold : (m.slot k).old
      · by_cases h1 : 0 < m.set.mr
        · have g1 : decide (0 < m.set.mr) = true := by simpa using h1
          have g2 : decide (m.set.mr > 0) = true := g1
          by_cases h2 : m.set.mr ≤ (m.slot k).served
          · have g3 : decide (m.set.mr ≤ (m.slot k).served) = true := by simpa using h2
            have g4 : decide ((m.slot k).served ≥ m.set.mr) = true := g3
            have hret : Hid (M.retires k = M.kill k) := by show _ = _; unfold RM.retires; rw [HG.out, hold, g1, g3]; rfl
            go_enter Tryz.func54, Tryz.ntmps54
            go_wp2_with fail
            refine (k1.out _ h).mono ?_
            rintro e w1 ⟨rfl, rfl⟩
            go_wp2_with fail
            refine (kl.out _ h).mono ?_
            rintro e w2 ⟨rfl, hb2⟩
            have hm2 := h.below hb2
            have fr2 := Fr.of_below (q := q) h.clean hb2
            obtain ⟨-, -, -, -, c4⟩ := hm2.slotc hk
            go_wp2_with fail
            refine (ke.out _ hm2).mono ?_
            rintro e w3 ⟨rfl, o3, lv3, hm3, frx⟩
            have fr3 := fr2.trans frx
            clear c4
            obtain ⟨-, d1, -, d3, -⟩ := hm3.slotc hk
            have dm := hm3.mrc
            rw [HSL.out] at d1 d3
            rw [HMR.out] at dm
            rw [hold] at d3
            go_wp2_with fail
            go_quiet (fail)
            have hmq : RMem o3 q (w3.drewN nq) b M lv3 kv qv := hm3.below (below_dN (Below.refl _ _))
            have frq := fr3.below (w2 := w3.drewN nq) (below_dN (Below.refl _ _))
            clear d1 d3 dm
            generalize w3.drewN nq = w4 at *
            go_wp2_with fail
            refine (rKill_any hmq k hk).mono ?_
            rintro e w5 ⟨rfl, hm5, fr5⟩
            go_wp2_with fail
            refine (ks.out _ _ _ (by rw [hret.out]; exact hm5)).mono ?_
            rintro e w6 ⟨rfl, hm6, fr6⟩
            go_wp2
            go_ret
            exact ⟨rfl, _, _, hm6, (frq.trans fr5).trans fr6⟩
          · have g3 : decide (m.set.mr ≤ (m.slot k).served) = false := by simpa using h2
            have g4 : decide ((m.slot k).served ≥ m.set.mr) = false := g3
            have hret : Hid (M.retires k = (M.slotSt k 2).slotSince k 0) := by show _ = _; unfold RM.retires; rw [HG.out, hold, g1, g3]; rfl
            go_enter Tryz.func54, Tryz.ntmps54
            go_wp2_with fail
            refine (k1.out _ h).mono ?_
            rintro e w1 ⟨rfl, rfl⟩
            go_wp2_with fail
            refine (kl.out _ h).mono ?_
            rintro e w2 ⟨rfl, hb2⟩
            have hm2 := h.below hb2
            have fr2 := Fr.of_below (q := q) h.clean hb2
            obtain ⟨-, -, -, -, c4⟩ := hm2.slotc hk
            go_wp2_with fail
            refine (ke.out _ hm2).mono ?_
            rintro e w3 ⟨rfl, o3, lv3, hm3, frx⟩
            have fr3 := fr2.trans frx
            clear c4
            obtain ⟨-, d1, -, d3, -⟩ := hm3.slotc hk
            have dm := hm3.mrc
            rw [HSL.out] at d1 d3
            rw [HMR.out] at dm
            rw [hold] at d3
            go_wp2_with fail
            go_quiet (fail)
            have hmq : RMem o3 q (w3.drewN nq) b M lv3 kv qv := hm3.below (below_dN (Below.refl _ _))
            have frq := fr3.below (w2 := w3.drewN nq) (below_dN (Below.refl _ _))
            clear d1 d3 dm
            generalize w3.drewN nq = w4 at *
            obtain ⟨hmA, frA⟩ := hmq.slotSt hk 2
            obtain ⟨hmB, frB⟩ := hmA.slotSince hk 0
            obtain ⟨a0, -, -, -, -⟩ := hmq.slotc hk
            obtain ⟨-, -, a2, -, -⟩ := hmA.slotc hk
            have fz := hmq.frozen
            have fz2 := hmA.frozen
            go_wp2_with fail
            refine (ks.out _ _ _ (by rw [hret.out]; exact hmB)).mono ?_
            rintro e w6 ⟨rfl, hm6, fr6⟩
            clear a0 a2 fz fz2
            go_wp2
            go_ret
            exact ⟨rfl, _, _, hm6, ((frq.trans frA).trans frB).trans fr6⟩
        · have g1 : decide (0 < m.set.mr) = false := by simpa using h1
          have g2 : decide (m.set.mr > 0) = false := g1
          have hret : Hid (M.retires k = (M.slotSt k 2).slotSince k 0) := by show _ = _; unfold RM.retires; rw [HG.out, hold, g1]; rfl
          go_enter Tryz.func54, Tryz.ntmps54
          go_wp2_with fail
          refine (k1.out _ h).mono ?_
          rintro e w1 ⟨rfl, rfl⟩
          go_wp2_with fail
          refine (kl.out _ h).mono ?_
          rintro e w2 ⟨rfl, hb2⟩
          have hm2 := h.below hb2
          have fr2 := Fr.of_below (q := q) h.clean hb2
          obtain ⟨-, -, -, -, c4⟩ := hm2.slotc hk
          go_wp2_with fail
          refine (ke.out _ hm2).mono ?_
          rintro e w3 ⟨rfl, o3, lv3, hm3, frx⟩
          have fr3 := fr2.trans frx
          clear c4
          obtain ⟨-, d1, -, d3, -⟩ := hm3.slotc hk
          have dm := hm3.mrc
          rw [HSL.out] at d1 d3
          rw [HMR.out] at dm
          rw [hold] at d3
          go_wp2_with fail
          go_quiet (fail)
          have hmq : RMem o3 q (w3.drewN nq) b M lv3 kv qv := hm3.below (below_dN (Below.refl _ _))
          have frq := fr3.below (w2 := w3.drewN nq) (below_dN (Below.refl _ _))
          clear d1 d3 dm
          generalize w3.drewN nq = w4 at *
          obtain ⟨hmA, frA⟩ := hmq.slotSt hk 2
          obtain ⟨hmB, frB⟩ := hmA.slotSince hk 0
          obtain ⟨a0, -, -, -, -⟩ := hmq.slotc hk
          obtain ⟨-, -, a2, -, -⟩ := hmA.slotc hk
          have fz := hmq.frozen
          have fz2 := hmA.frozen
          go_wp2_with fail
          refine (ks.out _ _ _ (by rw [hret.out]; exact hmB)).mono ?_
          rintro e w6 ⟨rfl, hm6, fr6⟩
          clear a0 a2 fz fz2
          go_wp2
          go_ret
          exact ⟨rfl, _, _, hm6, ((frq.trans frA).trans frB).trans fr6⟩
      · skip
        have hret : Hid (M.retires k = M.kill k) := by show _ = _; unfold RM.retires; rw [HG.out, hold]; rfl
        go_enter Tryz.func54, Tryz.ntmps54
        go_wp2_with fail
        refine (k1.out _ h).mono ?_
        rintro e w1 ⟨rfl, rfl⟩
        go_wp2_with fail
        refine (kl.out _ h).mono ?_
        rintro e w2 ⟨rfl, hb2⟩
        have hm2 := h.below hb2
        have fr2 := Fr.of_below (q := q) h.clean hb2
        obtain ⟨-, -, -, -, c4⟩ := hm2.slotc hk
        go_wp2_with fail
        refine (ke.out _ hm2).mono ?_
        rintro e w3 ⟨rfl, o3, lv3, hm3, frx⟩
        have fr3 := fr2.trans frx
        clear c4
        obtain ⟨-, d1, -, d3, -⟩ := hm3.slotc hk
        have dm := hm3.mrc
        rw [HSL.out] at d1 d3
        rw [HMR.out] at dm
        rw [hold] at d3
        go_wp2_with fail
        go_quiet (fail)
        have hmq : RMem o3 q (w3.drewN nq) b M lv3 kv qv := hm3.below (below_dN (Below.refl _ _))
        have frq := fr3.below (w2 := w3.drewN nq) (below_dN (Below.refl _ _))
        clear d1 d3 dm
        generalize w3.drewN nq = w4 at *
        go_wp2_with fail
        refine (rKill_any hmq k hk).mono ?_
        rintro e w5 ⟨rfl, hm5, fr5⟩
        go_wp2_with fail
        refine (ks.out _ _ _ (by rw [hret.out]; exact hm5)).mono ?_
        rintro e w6 ⟨rfl, hm6, fr6⟩
        go_wp2
        go_ret
        exact ⟨rfl, _, _, hm6, (frq.trans fr5).trans fr6⟩
  · have he2 : (m.stE n 3 == 0) = false := by simpa using he
    simp only [he2, cond_false]
    generalize m.stE n 3 = E at *
    go_enter Tryz.func54, Tryz.ntmps54
    go_wp2_with fail
    refine (k1.out _ h).mono ?_
    rintro e w1 ⟨rfl, rfl⟩
    go_wp2
    go_ret
    exact ⟨rfl, o, lv, h, Fr.refl h.clean⟩

end
end Go.Proofs.YtlafkpaljibonaaGreat

namespace Go.Proofs.YtlafkpaljibonaaGreat
open Go.RowKit

def RM.outN (c : Nat) (i : Int) : Nat → RM → ByteArray → RM
  | 0, m, _ => m
  | f + 1, m, t => if t.size = 0 then m else RM.outN c i f (m.send c (6, i, t.extract 0 (min t.size 200))) (t.extract (min t.size 200) t.size)
def RM.putsOut (m : RM) (k : Nat) (s : ByteArray) : RM := cond (m.live k) (RM.outN (m.key (m.slot k).key).conn.toNat (m.key (m.slot k).key).id s.size m s) m
def RM.outputs (m : RM) (k : Nat) (s : ByteArray) : RM := (m.putsOut k s).settle
def RM.afterOutput (m : RM) (n : Int) (s : ByteArray) : RM := cond (m.stE n 3 == 0) (m.outputs n.toNat s) m

theorem RM.outN_nil (c : Nat) (i : Int) (f : Nat) (m : RM) (t : ByteArray) (h : t.size = 0) : RM.outN c i f m t = m := by
  cases f with
  | zero => rfl
  | succ f => simp [RM.outN, h]

theorem RM.outN_same (c : Nat) (i : Int) : ∀ (f : Nat) (m : RM) (t : ByteArray), (RM.outN c i f m t).set = m.set ∧ (RM.outN c i f m t).keys = m.keys ∧ (RM.outN c i f m t).queue = m.queue ∧ (RM.outN c i f m t).slot = m.slot ∧ (RM.outN c i f m t).time = m.time
  | 0, _, _ => ⟨rfl, rfl, rfl, rfl, rfl⟩
  | f + 1, m, t => by
    unfold RM.outN
    split
    · exact ⟨rfl, rfl, rfl, rfl, rfl⟩
    · exact RM.outN_same c i f (m.send c (6, i, t.extract 0 (min t.size 200))) (t.extract (min t.size 200) t.size)

theorem RM.putsOut_same (m : RM) (k : Nat) (s : ByteArray) : (m.putsOut k s).set = m.set ∧ (m.putsOut k s).keys = m.keys ∧ (m.putsOut k s).queue = m.queue ∧ (m.putsOut k s).slot = m.slot ∧ (m.putsOut k s).time = m.time := by
  unfold RM.putsOut
  cases m.live k
  · exact ⟨rfl, rfl, rfl, rfl, rfl⟩
  · exact RM.outN_same _ _ _ _ _

theorem RM.wf_of {m m' : RM} (hwf : m.wf) (h1 : m'.set = m.set) (h2 : m'.keys = m.keys) (h3 : m'.queue = m.queue) (h4 : m'.slot = m.slot) : m'.wf :=
  ⟨by rw [h3, h2]; exact hwf.q, by rw [h4, h2]; exact hwf.s, by rw [h1]; exact hwf.ch⟩

section
variable {o : Nat → Tag} {q : Nat} {w : World} {b : Nat} {m : RM} {lv : Nat → Value} {kv qv : Value}

set_option maxRecDepth 100000 in
set_option maxHeartbeats 4000000 in
theorem rDied_any (h : RMem o q w b m lv kv qv) (hwf : m.wf) (hmax : m.queue.length ≤ 1000000000000) (n : Int) (hsent : ∀ c, c < 4 → (m.line c).sent.length ≤ 1000000000000) (hf : ∀ k, k < 6 → m.fair k) :
    Calls Tryz.prog 56 #[.pointer (some ⟨b, 0, none⟩), .int .i64 n] w fun r w' => r = .returned (.int .i64 (m.diedE n)) ∧ ∃ o' lv', RMem o' q w' b (m.afterDied n) lv' kv qv ∧ Fr q o w o' w' := by
  unfold RM.afterDied RM.diedE
  rcases isS_cases n with h0 | ⟨h0, k, hk, rfl⟩
  · simp only [h0, cond_false]
    go_enter Tryz.func56, Tryz.ntmps56
    go_wp2_with fail
    refine (rIsSlot_any _ _).mono ?_
    rintro e w1 ⟨rfl, rfl⟩
    rw [h0]
    go_wp2
    go_ret
    exact ⟨rfl, o, lv, h, Fr.refl h.clean⟩
  · obtain ⟨c0, -⟩ := h.slotc hk
    have hkI : (k : Int) < 6 := by omega
    simp only [h0, cond_true, Int.toNat_natCast]
    by_cases hs : (m.slot k).st = 0
    · rw [hs] at c0
      simp only [hs, beq_self_eq_true, cond_true]
      clear hs
      go_enter Tryz.func56, Tryz.ntmps56
      go_wp2_with fail
      refine (rIsSlot_any _ _).mono ?_
      rintro e w1 ⟨rfl, rfl⟩
      rw [h0]
      go_wp2
      go_ret
      exact ⟨rfl, o, lv, h, Fr.refl h.clean⟩
    · have hs2 : ((m.slot k).st == 0) = false := by simpa using hs
      simp only [hs2, cond_false, beq_self_eq_true, cond_true]
      unfold RM.died
      obtain ⟨e1, e2, e3, -, -⟩ := m.endOf_same k 1
      have hw2 := RM.wf_empties (RM.wf_endOf hwf k 1) k
      have hq2 : ((m.endOf k 1).empties k).queue.length ≤ 1000000000000 := by rw [show ((m.endOf k 1).empties k).queue = (m.endOf k 1).queue from rfl, e3]; exact hmax
      have ks : Hid (∀ o' lv' w', RMem o' q w' b ((m.endOf k 1).empties k) lv' kv qv → Calls Tryz.prog 32 #[.pointer (some ⟨b, 0, none⟩)] w' fun r w'' => r = .returned (.tuple #[]) ∧ RMem o' q w'' b ((m.endOf k 1).empties k).settle lv' kv qv ∧ Fr q o' w' o' w'') := fun o' lv' w' h' => rSettle_any h' hw2 hq2
      have kl : Hid (∀ w', RMem o q w' b m lv kv qv → Calls Tryz.prog 59 #[.pointer (some ⟨b, 0, none⟩), .int .i64 (k : Nat)] w' fun r w'' => r = .returned (.bool (m.live k)) ∧ Below w'.heap.size w' w'') := fun w' h' => live_any h' hwf k hk
      have hfk := hf k hk
      unfold RM.fair at hfk
      have HEO : Hid (m.endOf k 1 = cond (m.live k) (m.endKey (m.slot k).key 1) m) := rfl
      clear e1 e2 e3 hw2 hq2 hf
      generalize m.endOf k 1 = M at *
      cases hlive : m.live k
      · rw [hlive] at kl HEO
        have hM : m = M := HEO.out.symm
        subst hM
        clear HEO hfk hlive
        go_enter Tryz.func56, Tryz.ntmps56
        go_wp2_with fail
        refine (rIsSlot_any _ _).mono ?_
        rintro e w1 ⟨rfl, rfl⟩
        rw [h0]
        go_wp2_with fail
        refine (kl.out _ h).mono ?_
        rintro e w2 ⟨rfl, hb2⟩
        have hm2 := h.below hb2
        have fr2 := Fr.of_below (q := q) h.clean hb2
        obtain ⟨d0, d1, d2, d3, d4⟩ := hm2.slotc hk
        have fz := hm2.frozen
        have hp := hm2.putSlot hk noSlot
        clear c0
        go_wp2_with fail
        refine (ks.out _ _ _ hp.1).mono ?_
        rintro e w3 ⟨rfl, hm3, fr3⟩
        clear d0 d1 d2 d3 d4 fz
        go_wp2
        go_ret
        exact ⟨rfl, _, _, hm3, (fr2.trans hp.2).trans fr3⟩
      · rw [hlive] at kl HEO
        obtain ⟨c, hc, hcn⟩ := hfk hlive
        have hst : (m.slot k).st = 3 := by simp [RM.live] at hlive; exact hlive.1
        have hkey := hwf.s k hk hst
        rw [m.key_eq hkey] at hcn
        have ke : Hid (∀ w', RMem o q w' b m lv kv qv → Calls Tryz.prog 60 #[.pointer (some ⟨b, 0, none⟩), .int .i64 ((m.slot k).key : Nat), .int .i64 1] w' fun r w'' => r = .returned (.tuple #[]) ∧ ∃ o' lv', RMem o' q w'' b M lv' kv qv ∧ Fr q o w' o' w'') := fun w' h' => by have := rEnd_any h' (m.slot k).key hkey c hc hcn 1 (by omega) (by omega) (hsent c hc); rw [HEO.out]; exact this
        clear HEO hfk hlive hcn hst
        go_enter Tryz.func56, Tryz.ntmps56
        go_wp2_with fail
        refine (rIsSlot_any _ _).mono ?_
        rintro e w1 ⟨rfl, rfl⟩
        rw [h0]
        go_wp2_with fail
        refine (kl.out _ h).mono ?_
        rintro e w2 ⟨rfl, hb2⟩
        have hm2 := h.below hb2
        have fr2 := Fr.of_below (q := q) h.clean hb2
        obtain ⟨-, -, -, -, c4⟩ := hm2.slotc hk
        clear c0
        go_wp2_with fail
        refine (ke.out _ hm2).mono ?_
        rintro e w3 ⟨rfl, o3, lv3, hm3, frx⟩
        clear c4
        obtain ⟨d0, d1, d2, d3, d4⟩ := hm3.slotc hk
        have fz := hm3.frozen
        have hp := hm3.putSlot hk noSlot
        go_wp2_with fail
        refine (ks.out _ _ _ hp.1).mono ?_
        rintro e w4 ⟨rfl, hm4, fr4⟩
        clear d0 d1 d2 d3 d4 fz
        go_wp2
        go_ret
        exact ⟨rfl, _, _, hm4, ((fr2.trans frx).trans hp.2).trans fr4⟩

end
end Go.Proofs.YtlafkpaljibonaaGreat
