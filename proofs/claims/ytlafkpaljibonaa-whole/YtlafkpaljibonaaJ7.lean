import Derived.Test.YtlafkpaljibonaaJ6
import Derived.Deep.LoopGhost
import Derived.Laws.StructEq
import Derived.Lib.Strings
namespace Go.Proofs.Ytlafkpaljibonaa
open Go.RowKit

section
variable {o : Nat → Tag} {q : Nat} {w : World} {b : Nat} {m : PM} {sv : Nat → Value} {rv : Value}

set_option maxRecDepth 100000 in
set_option maxHeartbeats 2000000 in
theorem key_any (h : FMem o q w b m sv rv) (k : Nat) (hk : k < 6) :
    Calls Try.prog 76 #[.pointer (some ⟨b, 21 + k * 7, none⟩)] w fun r w' => r = .returned (.tuple #[.agg #[.int .i64 (m.slot k).conn, .int .i64 (m.slot k).id], .bool ((m.slot k).conn != -1)]) ∧ Below w.heap.size w w' := by
  have hb0 : Below w.heap.size w (w.alloc (.cells #[.int .i64 0, .int .i64 0] 109)) := (Below.refl _ _).alloc (Nat.le_refl _) _
  have x0 := Blk.made w 109 [.int .i64 0, .int .i64 0]
  have hA := h.below hb0
  obtain ⟨-, -, -, -, c4, c5, -⟩ := hA.slotc hk
  have hbl : b ≠ w.heap.size := Nat.ne_of_lt h.blk.lt
  generalize (m.slot k).conn = cn at *
  generalize (m.slot k).id = id at *
  go_enter Try.func76, Try.ntmps76
  go_wp2_with fail
  have x1 : Blk (w.alloc (.cells #[.int .i64 0, .int .i64 0] 109)) w.heap.size 109 [.int .i64 0, .int .i64 0] := x0
  generalize w.alloc (.cells #[.int .i64 0, .int .i64 0] 109) = w0 at *
  have y0 := x1.cell (k := 0) (u := .int .i64 0) rfl
  have y1 := x1.cell (k := 1) (u := .int .i64 0) rfl
  have fz := x1.frozen
  clear x0
  go_region_held3 (fun w' => w'.cell? ⟨b, 21 + k * 7 + 4, none⟩ = some (.int .i64 cn) ∧ w'.cell? ⟨b, 21 + k * 7 + 5, none⟩ = some (.int .i64 id)) (first | exact ⟨c4, c5⟩ | exact ⟨(World.cell?_of_block ((Below.heap_setCell _ _ _ b hbl).trans (Below.heap_setCell _ _ _ b hbl))).trans c4, (World.cell?_of_block ((Below.heap_setCell _ _ _ b hbl).trans (Below.heap_setCell _ _ _ b hbl))).trans c5⟩) (fail)
  go_wp2
  have x2 := (x1.set 0 (.int .i64 cn)).set 1 (.int .i64 id)
  have z0 := x2.cell (k := 0) (u := .int .i64 cn) rfl
  have z1 := x2.cell (k := 1) (u := .int .i64 id) rfl
  have hfin : Below w.heap.size w ((w0.setCell ⟨w.heap.size, 0, none⟩ (.int .i64 cn)).setCell ⟨w.heap.size, 1, none⟩ (.int .i64 id)) := (hb0.setCell (by simp) _).setCell (by simp) _
  exact bodyPost_ret (v := .tuple #[.agg #[.int .i64 cn, .int .i64 id], .bool (cn != -1)]) (by simp [results, Try.results76, go_sem, z0, z1]) rfl ⟨rfl, hfin.drew⟩

/-- The key of a slot, if it has one, ends with a status. -/
def PM.endKeyOf (m : PM) (k : Nat) (st : Int) : PM := cond ((m.slot k).conn != -1) (m.endKey (m.slot k).conn.toNat (m.slot k).id st) m

/-- A slot's connection is none, or one that there is. -/
def PM.fair (m : PM) (k : Nat) : Prop := (m.slot k).conn = -1 ∨ ∃ c : Nat, c < 4 ∧ (m.slot k).conn = c

set_option maxRecDepth 100000 in
set_option maxHeartbeats 2000000 in
theorem endKeyOf_any (h : FMem o q w b m sv rv) (hq : q ≠ 0) (k : Nat) (hk : k < 6) (hf : m.fair k) (st : Int) (h0 : 0 ≤ st) (h1 : st ≤ 255) (hs : ∀ c, c < 4 → (m.con c).sent.length ≤ 1000000000000) (hmax : m.req.length ≤ 1000000000000) :
    Calls Try.prog 78 #[.pointer (some ⟨b, 0, none⟩), .int .i64 k, .int .i64 st] w fun r w' => r = .returned (.tuple #[]) ∧ ∃ o' sv' rv', FMem o' q w' b (m.endKeyOf k st) sv' rv' ∧ Fr q o w o' w' := by
  have hkI : (k : Int) < 6 := by omega
  unfold PM.endKeyOf
  rcases hf with e | ⟨c, hc, e⟩
  · have hb : ((m.slot k).conn != -1) = false := by rw [e]; rfl
    have kk : Hid (∀ w', FMem o q w' b m sv rv → Calls Try.prog 76 #[.pointer (some ⟨b, 21 + k * 7, none⟩)] w' fun r w'' => r = .returned (.tuple #[.agg #[.int .i64 (-1), .int .i64 (m.slot k).id], .bool false]) ∧ Below w'.heap.size w' w'') := fun w' h' => by have := key_any h' k hk; rw [hb, e] at this; exact this
    rw [hb]
    simp only [cond_false]
    clear hb e
    go_enter Try.func78, Try.ntmps78
    go_wp2_with fail
    refine (kk.out _ h).mono ?_
    rintro e w1 ⟨rfl, hb1⟩
    have hm1 := h.below hb1
    go_wp2
    exact bodyPost_end (v := .tuple #[]) (by simp [results, Try.results78, go_sem]) rfl ⟨rfl, o, sv, rv, hm1.alloc _, (Fr.of_below (q := q) h.clean hb1).below ((Below.refl _ _).alloc (Nat.le_refl _) _)⟩
  · have hb : ((m.slot k).conn != -1) = true := by rw [e]; simp
    have kk : Hid (∀ w', FMem o q w' b m sv rv → Calls Try.prog 76 #[.pointer (some ⟨b, 21 + k * 7, none⟩)] w' fun r w'' => r = .returned (.tuple #[.agg #[.int .i64 (c : Nat), .int .i64 (m.slot k).id], .bool true]) ∧ Below w'.heap.size w' w'') := fun w' h' => by have := key_any h' k hk; rw [hb, e] at this; exact this
    rw [hb, e]
    simp only [cond_true, Int.toNat_natCast]
    clear hb e
    go_enter Try.func78, Try.ntmps78
    go_wp2_with fail
    refine (kk.out _ h).mono ?_
    rintro e w1 ⟨rfl, hb1⟩
    have hm1 := h.below hb1
    have hb2 : Below w1.heap.size w1 (w1.alloc (.cells #[.int .i64 c, .int .i64 (m.slot k).id] 109)) := (Below.refl _ _).alloc (Nat.le_refl _) _
    go_wp2_with fail
    refine (end_any (hm1.below hb2) hq c hc (m.slot k).id st h0 h1 (hs c hc) hmax).mono ?_
    rintro e w2 ⟨rfl, o2, sv2, rv2, hm2, fr2⟩
    go_wp2
    exact bodyPost_end (v := .tuple #[]) (by simp [results, Try.results78, go_sem]) rfl ⟨rfl, o2, sv2, rv2, hm2, ((Fr.of_below (q := q) h.clean hb1).below hb2).trans fr2⟩

def PM.mustGo (m : PM) (k : Nat) : Bool := (m.slot k).old || (decide (0 < m.set.mr) && decide (m.set.mr ≤ (m.slot k).served))

theorem FMem.mrc (h : FMem o q w b m sv rv) : w.cell? ⟨b, 4, none⟩ = some (.int .i64 m.set.mr) := h.blk.cell rfl

set_option maxRecDepth 100000 in
set_option maxHeartbeats 2000000 in
theorem mustGo_any (h : FMem o q w b m sv rv) (k : Nat) (hk : k < 6) :
    Calls Try.prog 79 #[.pointer (some ⟨b, 0, none⟩), .int .i64 k] w fun r w' => r = .returned (.bool (m.mustGo k)) ∧ Below w.heap.size w w' := by
  have hkI : (k : Int) < 6 := by omega
  obtain ⟨c0, c1, c2, c3, c4, c5, -⟩ := h.slotc hk
  have cm := h.mrc
  have hbl : b ≠ w.heap.size := Nat.ne_of_lt h.blk.lt
  unfold PM.mustGo
  have hb0 : ∀ ob, Below w.heap.size w (w.alloc ob) := fun ob => (Below.refl _ _).alloc (Nat.le_refl _) ob
  have hA := fun ob => (h.below (hb0 ob)).mrc
  have x0 := Blk.made w 58 [.int .i64 (m.slot k).st, .bool (m.slot k).old, .int .i64 (m.slot k).served, .int .i64 (m.slot k).since, .int .i64 (m.slot k).conn, .int .i64 (m.slot k).id]
  generalize (m.slot k).st = s0 at *
  generalize (m.slot k).old = old at *
  generalize (m.slot k).served = srv at *
  generalize (m.slot k).since = snc at *
  generalize (m.slot k).conn = cn at *
  generalize (m.slot k).id = id at *
  generalize m.set.mr = mr at *
  have y1 := x0.cell (k := 1) (u := .bool old) rfl
  have y2 := x0.cell (k := 2) (u := .int .i64 srv) rfl
  cases old
  · by_cases h1 : 0 < mr
    · have g1 : decide (0 < mr) = true := by simpa using h1
      have g2 : decide (mr > 0) = true := g1
      by_cases h2 : mr ≤ srv
      · have g3 : decide (mr ≤ srv) = true := by simpa using h2
        have g4 : decide (srv ≥ mr) = true := g3
        rw [g1, g3]
        go_enter Try.func79, Try.ntmps79
        go_wp2
        go_quiet (fail)
        go_wp2
        go_ret
        exact ⟨rfl, below_dN (hb0 _)⟩
      · have g3 : decide (mr ≤ srv) = false := by simpa using h2
        have g4 : decide (srv ≥ mr) = false := g3
        rw [g1, g3]
        go_enter Try.func79, Try.ntmps79
        go_wp2
        go_quiet (fail)
        go_wp2
        go_ret
        exact ⟨rfl, below_dN (hb0 _)⟩
    · have g1 : decide (0 < mr) = false := by simpa using h1
      have g2 : decide (mr > 0) = false := g1
      rw [g1]
      go_enter Try.func79, Try.ntmps79
      go_wp2
      go_quiet (fail)
      go_wp2
      go_ret
      exact ⟨rfl, below_dN (hb0 _)⟩
  · go_enter Try.func79, Try.ntmps79
    go_wp2
    go_quiet (fail)
    go_wp2
    go_ret
    exact ⟨rfl, below_dN (hb0 _)⟩

end
end Go.Proofs.Ytlafkpaljibonaa

namespace Go.Proofs.Ytlafkpaljibonaa
open Go.RowKit

/-- What a worker puts out, as records one behind the other. -/
def PM.outN (c : Nat) (i : Int) : Nat → PM → ByteArray → PM
  | 0, m, _ => m
  | f + 1, m, t => if t.size = 0 then m else PM.outN c i f (m.sendB c (encB 6 i (t.extract 0 (min t.size 200)))) (t.extract (min t.size 200) t.size)
def PM.sendOut (m : PM) (c : Nat) (i : Int) (s : ByteArray) : PM := PM.outN c i s.size m s

theorem PM.outN_nil (c : Nat) (i : Int) (f : Nat) (m : PM) (t : ByteArray) (h : t.size = 0) : PM.outN c i f m t = m := by
  cases f with
  | zero => rfl
  | succ f => simp [PM.outN, h]

theorem ba_nil_iff (t : ByteArray) : (t.toList == []) = decide (t.size = 0) := by
  rw [ByteArray.toList_eq, Bool.eq_iff_iff, beq_iff_eq, decide_eq_true_eq, ← List.length_eq_zero_iff]
  exact Iff.rfl

section
variable {o : Nat → Tag} {q : Nat} {w : World} {b : Nat} {m : PM} {sv : Nat → Value} {rv : Value}

set_option maxRecDepth 100000 in
set_option maxHeartbeats 4000000 in
theorem sendOut_any (h : FMem o q w b m sv rv) (hq : q ≠ 0) (c : Nat) (hc : c < 4) (i : Int) (s : ByteArray) (hs : s.size ≤ 1000000000) {S : Nat} (hS : S ≤ 100000000000) (hsent : (m.con c).sent.length ≤ S) :
    Calls Try.prog 77 #[.pointer (some ⟨b, 0, none⟩), .agg #[.int .i64 c, .int .i64 i], .string s] w fun r w' => r = .returned (.tuple #[]) ∧ ∃ o' sv', FMem o' q w' b (m.sendOut c i s) sv' rv ∧ Fr q o w o' w' := by
  have hb0 : Below w.heap.size w (w.alloc (.cells #[.int .i64 c, .int .i64 i] 109)) := (Below.refl _ _).alloc (Nat.le_refl _) _
  have x0 := Blk.made w 109 [.int .i64 c, .int .i64 i]
  have hcl := h.clean _ (Nat.le_refl w.heap.size)
  unfold PM.sendOut
  go_enter Try.func77, Try.ntmps77
  go_wp2_with fail
  have x1 : Blk (w.alloc (.cells #[.int .i64 c, .int .i64 i] 109)) w.heap.size 109 [.int .i64 c, .int .i64 i] := x0
  have hA := h.below hb0
  have frA := Fr.of_below (q := q) h.clean hb0
  have frR := Fr.refl (q := q) hA.clean
  clear x0 hb0 h
  generalize w.alloc (.cells #[.int .i64 c, .int .i64 i] 109) = w0 at *
  have hlt0 := x1.lt
  go_loopg [2, 6] s.size (fun g t _ w' => ∃ (T : ByteArray) (M : PM) (o' : Nat → Tag) (sv' : Nat → Value), t = .string T ∧ T.size ≤ g ∧ T.size ≤ s.size ∧ FMem o' q w' b M sv' rv ∧ Fr q o w0 o' w' ∧ Blk w' w.heap.size 109 [.int .i64 c, .int .i64 i] ∧ PM.outN c i s.size m s = PM.outN c i g M T ∧ (M.con c).sent.length ≤ S + 208 * (s.size - T.size))
  case atStart => exact ⟨s, m, o, sv, rfl, Nat.le_refl _, Nat.le_refl _, hA, frR, x1, rfl, by omega⟩
  case round =>
    obtain ⟨T, M, o1, sv1, rfl, hTg, hTs, hm, hfr, hbk, heq, hsn⟩ := hrel
    clear hA frR x1
    have HOWN : Hid ((o1 w.heap.size).1 ≠ q) := by show _ ≠ _; rw [hfr.tags _ hlt0, hcl]; exact fun e => hq e.symm
    have HE : Hid _ := heq
    clear heq
    have y0 := hbk.cell (k := 0) (u := .int .i64 c) rfl
    have y1 := hbk.cell (k := 1) (u := .int .i64 i) rfl
    by_cases hT : T.size = 0
    · have hfin : Hid (PM.outN c i s.size m s = M) := by show _ = _; rw [HE.out, PM.outN_nil _ _ _ _ _ hT]
      have hn : (T.toList == []) = true := by rw [ba_nil_iff]; simpa using hT
      clear HE hT
      go_wp2
      refine bodyPost_end (v := .tuple #[]) (by simp [results, Try.results77, go_sem]) rfl ⟨rfl, ?_⟩
      rw [hfin.out]
      exact ⟨o1, sv1, hm, frA.trans hfr⟩
    · have hn : (T.toList == []) = false := by rw [ba_nil_iff]; simpa using hT
      obtain ⟨g', hg'⟩ : ∃ g', gk = g' + 1 := ⟨gk - 1, by omega⟩
      have HV : Hid (PM.outN c i s.size m s = PM.outN c i g' (M.sendB c (encB 6 i (T.extract 0 (min T.size 200)))) (T.extract (min T.size 200) T.size)) := by
        show _ = _
        rw [HE.out, hg']
        simp [PM.outN, hT]
      have hgk : g' < gk := by omega
      clear HE
      have hbX := hbk
      have hmd := hm.below (Below.refl _ _).drew
      have henc := encB_size 6 i (T.extract 0 (min T.size 200))
      have hsn2 : (M.con c).sent.length ≤ 1000000000000 := by omega
      have hlen : ((M.sendB c (encB 6 i (T.extract 0 (min T.size 200)))).con c).sent.length ≤ S + 208 * (s.size - (T.extract (min T.size 200) T.size).size) := by
        simp only [PM.sendB, upd_same, List.length_append, nums_length, ByteArray.size_extract]
        omega
      have HLEN : Hid _ := hlen
      have hsz1 : (T.extract (min T.size 200) T.size).size ≤ g' := by rw [ByteArray.size_extract]; omega
      have hsz2 : (T.extract (min T.size 200) T.size).size ≤ s.size := by rw [ByteArray.size_extract]; omega
      have HSZ1 : Hid _ := hsz1
      have HSZ2 : Hid _ := hsz2
      clear hlen hsz1 hsz2 henc hg'
      have ks : Hid (∀ w' o' sv', FMem o' q w' b M sv' rv → ∀ t, Calls Try.prog 101 #[.pointer (some ⟨b, 0, none⟩), .int .i64 (c : Nat), .agg #[.int .i64 6, .int .i64 i, .string t]] w' fun r w'' => r = .returned (.tuple #[]) ∧ ∃ o'' sv'', FMem o'' q w'' b (M.sendB c (encB 6 i t)) sv'' rv ∧ Fr q o' w' o'' w'') := fun w' o' sv' h' t => send_any h' c hc 6 i t hsn2
      by_cases hbig : 200 < T.size
      · have hmin : min T.size 200 = 200 := by omega
        rw [hmin] at HV HLEN HSZ1 HSZ2
        have hbI : (200 : Int) < T.size := by omega
        have hbI2 : (200 : Int) ≤ T.size := by omega
        clear hmin
        go_wp2_with fail
        go_region_held3 (fun w' => w'.cell? ⟨w.heap.size, 0, none⟩ = some (.int .i64 (c : Nat)) ∧ w'.cell? ⟨w.heap.size, 1, none⟩ = some (.int .i64 i)) (first | exact ⟨y0, y1⟩ | exact ⟨z0, z1⟩) (first | (go_at_call 101; refine (ks.out _ _ _ hmd _).mono ?_; rintro e w2 ⟨rfl, o2, sv2, hm2, fr2⟩; have hbk2 : Blk w2 w.heap.size 109 [.int .i64 (c : Nat), .int .i64 i] := hbk.keep (fr2.block _ hbk.lt (HOWN.out)); have z0 := hbk2.cell (k := 0) (u := .int .i64 (c : Nat)) rfl; have z1 := hbk2.cell (k := 1) (u := .int .i64 i) rfl))
        have frB := (hfr.below (Below.refl _ _).drew).trans fr2
        clear y0 y1 z0 z1 hbk hm hfr hmd
        go_wp2
        go_roundg g'
        case measure => exact hgk
        case rel => exact ⟨T.extract 200 T.size, _, o2, sv2, rfl, HSZ1.out, HSZ2.out, hm2, frB, hbk2, HV.out, HLEN.out⟩
      · have hmin : min T.size 200 = T.size := by omega
        have e1 : T.extract 0 T.size = T := by simp
        have e2 : T.extract T.size T.size = ByteArray.empty := by simp
        rw [hmin, e1, e2] at HV HLEN
        rw [hmin, e2] at HSZ1 HSZ2
        clear e1 e2
        have hbI : ¬ (200 : Int) < T.size := by omega
        clear hmin
        go_wp2_with fail
        go_region_held3 (fun w' => w'.cell? ⟨w.heap.size, 0, none⟩ = some (.int .i64 (c : Nat)) ∧ w'.cell? ⟨w.heap.size, 1, none⟩ = some (.int .i64 i)) (first | exact ⟨y0, y1⟩ | exact ⟨z0, z1⟩) (first | (go_at_call 101; refine (ks.out _ _ _ hmd _).mono ?_; rintro e w2 ⟨rfl, o2, sv2, hm2, fr2⟩; have hbk2 : Blk w2 w.heap.size 109 [.int .i64 (c : Nat), .int .i64 i] := hbk.keep (fr2.block _ hbk.lt (HOWN.out)); have z0 := hbk2.cell (k := 0) (u := .int .i64 (c : Nat)) rfl; have z1 := hbk2.cell (k := 1) (u := .int .i64 i) rfl))
        have frB := (hfr.below (Below.refl _ _).drew).trans fr2
        clear y0 y1 z0 z1 hbk hm hfr hmd
        go_wp2
        go_roundg g'
        case measure => exact hgk
        case rel => exact ⟨ByteArray.empty, _, o2, sv2, rfl, HSZ1.out, HSZ2.out, hm2, frB, hbk2, HV.out, HLEN.out⟩


end
end Go.Proofs.Ytlafkpaljibonaa

namespace Go.Proofs.Ytlafkpaljibonaa
open Go.RowKit

theorem PM.stE_zero {m : PM} {n st : Int} (h : m.stE n st = 0) : ∃ k : Nat, k < 6 ∧ n = k ∧ (m.slot k).st = st := by
  rcases isS_cases n with h0 | ⟨h0, k, hk, rfl⟩
  · simp [PM.stE, h0] at h
  · refine ⟨k, hk, rfl, ?_⟩
    simp only [PM.stE, h0, cond_true, Int.toNat_natCast] at h
    cases hs : ((m.slot k).st == st)
    · rw [hs] at h; simp at h
    · simpa using hs

def PM.spawned (m : PM) (k : Nat) : PM := (cond (m.slot k).old (m.kill k) (m.becomesAt k 2)).settle
def PM.afterSpawned (m : PM) (n : Int) : PM := cond (m.stE n 1 == 0) (m.spawned n.toNat) m
def PM.outputs (m : PM) (k : Nat) (s : ByteArray) : PM := (cond ((m.slot k).conn != -1) (m.sendOut (m.slot k).conn.toNat (m.slot k).id s) m).settle
def PM.afterOutput (m : PM) (n : Int) (s : ByteArray) : PM := cond (m.stE n 3 == 0) (m.outputs n.toNat s) m
def PM.retires (m : PM) (k : Nat) : PM := cond (m.mustGo k) (m.kill k) (m.becomesAt k 2)
def PM.finished (m : PM) (k : Nat) : PM := ((m.endKeyOf k 0).retires k).settle
def PM.afterFinished (m : PM) (n : Int) : PM := cond (m.stE n 3 == 0) (m.finished n.toNat) m
def PM.diedE (m : PM) (n : Int) : Int := cond (isS n) (cond ((m.slot n.toNat).st == 0) 6 0) 5
def PM.empties (m : PM) (k : Nat) : PM := { m with slot := upd m.slot k (newSlot 0) }
def PM.died (m : PM) (k : Nat) : PM := ((m.endKeyOf k 1).empties k).settle
def PM.afterDied (m : PM) (n : Int) : PM := cond (m.diedE n == 0) (m.died n.toNat) m

section
variable {o : Nat → Tag} {q : Nat} {w : World} {b : Nat} {m : PM} {sv : Nat → Value} {rv : Value}

set_option maxRecDepth 100000 in
set_option maxHeartbeats 2000000 in
theorem spawned_any (h : FMem o q w b m sv rv) (n : Int) :
    Calls Try.prog 34 #[.pointer (some ⟨b, 0, none⟩), .int .i64 n] w fun r w' => r = .returned (.int .i64 (m.stE n 1)) ∧ FMem o q w' b (m.afterSpawned n) sv rv ∧ Fr q o w o w' := by
  have k1 : Hid (∀ w', FMem o q w' b m sv rv → Calls Try.prog 66 #[.pointer (some ⟨b, 0, none⟩), .int .i64 n, .int .i64 1] w' fun r w'' => r = .returned (.int .i64 (m.stE n 1)) ∧ w'' = w') := fun w' h' => checkState_any h' n 1
  unfold PM.afterSpawned
  by_cases he : m.stE n 1 = 0
  · obtain ⟨k, hk, rfl, -⟩ := PM.stE_zero he
    rw [he] at k1
    rw [he]
    simp only [beq_self_eq_true, cond_true, Int.toNat_natCast]
    clear he
    have hkI : (k : Int) < 6 := by omega
    obtain ⟨-, c1, -⟩ := h.slotc hk
    unfold PM.spawned
    cases ho : (m.slot k).old
    · rw [ho] at c1
      simp only [cond_false]
      clear ho
      go_enter Try.func34, Try.ntmps34
      go_wp2_with fail
      refine (k1.out _ h).mono ?_
      rintro e w1 ⟨rfl, rfl⟩
      go_wp2_with fail
      refine (becomes_any h k hk 2).mono ?_
      rintro e w2 ⟨rfl, hm2, fr2⟩
      clear c1
      go_wp2_with fail
      refine (settle_any hm2).mono ?_
      rintro e w3 ⟨rfl, hm3, fr3⟩
      go_wp2
      go_ret
      exact ⟨rfl, hm3, fr2.trans fr3⟩
    · rw [ho] at c1
      simp only [cond_true]
      clear ho
      go_enter Try.func34, Try.ntmps34
      go_wp2_with fail
      refine (k1.out _ h).mono ?_
      rintro e w1 ⟨rfl, rfl⟩
      go_wp2_with fail
      refine (kill_any h k hk).mono ?_
      rintro e w2 ⟨rfl, hm2, fr2⟩
      clear c1
      go_wp2_with fail
      refine (settle_any hm2).mono ?_
      rintro e w3 ⟨rfl, hm3, fr3⟩
      go_wp2
      go_ret
      exact ⟨rfl, hm3, fr2.trans fr3⟩
  · have he2 : (m.stE n 1 == 0) = false := by simpa using he
    simp only [he2, cond_false]
    generalize m.stE n 1 = E at *
    go_enter Try.func34, Try.ntmps34
    go_wp2_with fail
    refine (k1.out _ h).mono ?_
    rintro e w1 ⟨rfl, rfl⟩
    go_wp2
    go_ret
    exact ⟨rfl, h, Fr.refl h.clean⟩

set_option maxRecDepth 100000 in
set_option maxHeartbeats 2000000 in
theorem output_any (h : FMem o q w b m sv rv) (hq : q ≠ 0) (n : Int) (s : ByteArray) (hs : s.size ≤ 1000000000) {S : Nat} (hS : S ≤ 100000000000) (hsent : ∀ c, c < 4 → (m.con c).sent.length ≤ S) (hf : ∀ k, k < 6 → m.fair k) :
    Calls Try.prog 52 #[.pointer (some ⟨b, 0, none⟩), .int .i64 n, .string s] w fun r w' => r = .returned (.int .i64 (m.stE n 3)) ∧ ∃ o' sv', FMem o' q w' b (m.afterOutput n s) sv' rv ∧ Fr q o w o' w' := by
  have k1 : Hid (∀ w', FMem o q w' b m sv rv → Calls Try.prog 66 #[.pointer (some ⟨b, 0, none⟩), .int .i64 n, .int .i64 3] w' fun r w'' => r = .returned (.int .i64 (m.stE n 3)) ∧ w'' = w') := fun w' h' => checkState_any h' n 3
  unfold PM.afterOutput
  by_cases he : m.stE n 3 = 0
  · obtain ⟨k, hk, rfl, -⟩ := PM.stE_zero he
    rw [he] at k1
    rw [he]
    simp only [beq_self_eq_true, cond_true, Int.toNat_natCast]
    clear he
    have hkI : (k : Int) < 6 := by omega
    unfold PM.outputs
    rcases hf k hk with e | ⟨c, hc, e⟩
    · have hb : ((m.slot k).conn != -1) = false := by rw [e]; rfl
      have kk : Hid (∀ w', FMem o q w' b m sv rv → Calls Try.prog 76 #[.pointer (some ⟨b, 21 + k * 7, none⟩)] w' fun r w'' => r = .returned (.tuple #[.agg #[.int .i64 (-1), .int .i64 (m.slot k).id], .bool false]) ∧ Below w'.heap.size w' w'') := fun w' h' => by have := key_any h' k hk; rw [hb, e] at this; exact this
      rw [hb]
      simp only [cond_false]
      clear hb e
      go_enter Try.func52, Try.ntmps52
      go_wp2_with fail
      refine (k1.out _ h).mono ?_
      rintro e w1 ⟨rfl, rfl⟩
      go_wp2_with fail
      refine (kk.out _ h).mono ?_
      rintro e w2 ⟨rfl, hb2⟩
      have hm2 := h.below hb2
      have hb3 : Below w2.heap.size w2 (w2.alloc (.cells #[.int .i64 (-1), .int .i64 (m.slot k).id] 109)) := (Below.refl _ _).alloc (Nat.le_refl _) _
      go_wp2_with fail
      refine (settle_any (hm2.below hb3)).mono ?_
      rintro e w3 ⟨rfl, hm3, fr3⟩
      go_wp2
      go_ret
      exact ⟨rfl, o, sv, hm3, ((Fr.of_below (q := q) h.clean hb2).below hb3).trans fr3⟩
    · have hb : ((m.slot k).conn != -1) = true := by rw [e]; simp
      have kk : Hid (∀ w', FMem o q w' b m sv rv → Calls Try.prog 76 #[.pointer (some ⟨b, 21 + k * 7, none⟩)] w' fun r w'' => r = .returned (.tuple #[.agg #[.int .i64 (c : Nat), .int .i64 (m.slot k).id], .bool true]) ∧ Below w'.heap.size w' w'') := fun w' h' => by have := key_any h' k hk; rw [hb, e] at this; exact this
      rw [hb, e]
      simp only [cond_true, Int.toNat_natCast]
      clear hb e
      go_enter Try.func52, Try.ntmps52
      go_wp2_with fail
      refine (k1.out _ h).mono ?_
      rintro e w1 ⟨rfl, rfl⟩
      go_wp2_with fail
      refine (kk.out _ h).mono ?_
      rintro e w2 ⟨rfl, hb2⟩
      have hm2 := h.below hb2
      have hb3 : Below w2.heap.size w2 (w2.alloc (.cells #[.int .i64 c, .int .i64 (m.slot k).id] 109)) := (Below.refl _ _).alloc (Nat.le_refl _) _
      go_wp2_with fail
      refine (sendOut_any (hm2.below hb3) hq c hc (m.slot k).id s hs hS (hsent c hc)).mono ?_
      rintro e w3 ⟨rfl, o3, sv3, hm3, fr3⟩
      go_wp2_with fail
      refine (settle_any hm3).mono ?_
      rintro e w4 ⟨rfl, hm4, fr4⟩
      go_wp2
      go_ret
      exact ⟨rfl, o3, sv3, hm4, (((Fr.of_below (q := q) h.clean hb2).below hb3).trans fr3).trans fr4⟩
  · have he2 : (m.stE n 3 == 0) = false := by simpa using he
    simp only [he2, cond_false]
    generalize m.stE n 3 = E at *
    go_enter Try.func52, Try.ntmps52
    go_wp2_with fail
    refine (k1.out _ h).mono ?_
    rintro e w1 ⟨rfl, rfl⟩
    go_wp2
    go_ret
    exact ⟨rfl, o, sv, h, Fr.refl h.clean⟩

set_option maxRecDepth 100000 in
set_option maxHeartbeats 2000000 in
theorem finished_any (h : FMem o q w b m sv rv) (hq : q ≠ 0) (n : Int) (hsent : ∀ c, c < 4 → (m.con c).sent.length ≤ 1000000000000) (hmax : m.req.length ≤ 1000000000000) (hf : ∀ k, k < 6 → m.fair k) :
    Calls Try.prog 53 #[.pointer (some ⟨b, 0, none⟩), .int .i64 n] w fun r w' => r = .returned (.int .i64 (m.stE n 3)) ∧ ∃ o' sv' rv', FMem o' q w' b (m.afterFinished n) sv' rv' ∧ Fr q o w o' w' := by
  have k1 : Hid (∀ w', FMem o q w' b m sv rv → Calls Try.prog 66 #[.pointer (some ⟨b, 0, none⟩), .int .i64 n, .int .i64 3] w' fun r w'' => r = .returned (.int .i64 (m.stE n 3)) ∧ w'' = w') := fun w' h' => checkState_any h' n 3
  unfold PM.afterFinished
  by_cases he : m.stE n 3 = 0
  · obtain ⟨k, hk, rfl, -⟩ := PM.stE_zero he
    rw [he] at k1
    rw [he]
    simp only [beq_self_eq_true, cond_true, Int.toNat_natCast]
    clear he
    have hkI : (k : Int) < 6 := by omega
    unfold PM.finished
    have ke : Hid (∀ w', FMem o q w' b m sv rv → Calls Try.prog 78 #[.pointer (some ⟨b, 0, none⟩), .int .i64 (k : Nat), .int .i64 0] w' fun r w'' => r = .returned (.tuple #[]) ∧ ∃ o' sv' rv', FMem o' q w'' b (m.endKeyOf k 0) sv' rv' ∧ Fr q o w' o' w'') := fun w' h' => endKeyOf_any h' hq k hk (hf k hk) 0 (by omega) (by omega) hsent hmax
    generalize m.endKeyOf k 0 = M at *
    unfold PM.retires
    have kg : Hid (∀ o' sv' rv' w', FMem o' q w' b M sv' rv' → Calls Try.prog 79 #[.pointer (some ⟨b, 0, none⟩), .int .i64 (k : Nat)] w' fun r w'' => r = .returned (.bool (M.mustGo k)) ∧ Below w'.heap.size w' w'') := fun o' sv' rv' w' h' => mustGo_any h' k hk
    cases hg : M.mustGo k
    · rw [hg] at kg
      simp only [cond_false]
      clear hg
      go_enter Try.func53, Try.ntmps53
      go_wp2_with fail
      refine (k1.out _ h).mono ?_
      rintro e w1 ⟨rfl, rfl⟩
      go_wp2_with fail
      refine (ke.out _ h).mono ?_
      rintro e w2 ⟨rfl, o2, sv2, rv2, hm2, fr2⟩
      go_wp2_with fail
      refine (kg.out _ _ _ _ hm2).mono ?_
      rintro e w3 ⟨rfl, hb3⟩
      have hm3 := hm2.below hb3
      go_wp2_with fail
      refine (becomes_any hm3 k hk 2).mono ?_
      rintro e w4 ⟨rfl, hm4, fr4⟩
      go_wp2_with fail
      refine (settle_any hm4).mono ?_
      rintro e w5 ⟨rfl, hm5, fr5⟩
      go_wp2
      go_ret
      exact ⟨rfl, o2, sv2, rv2, hm5, ((fr2.below hb3).trans fr4).trans fr5⟩
    · rw [hg] at kg
      simp only [cond_true]
      clear hg
      go_enter Try.func53, Try.ntmps53
      go_wp2_with fail
      refine (k1.out _ h).mono ?_
      rintro e w1 ⟨rfl, rfl⟩
      go_wp2_with fail
      refine (ke.out _ h).mono ?_
      rintro e w2 ⟨rfl, o2, sv2, rv2, hm2, fr2⟩
      go_wp2_with fail
      refine (kg.out _ _ _ _ hm2).mono ?_
      rintro e w3 ⟨rfl, hb3⟩
      have hm3 := hm2.below hb3
      go_wp2_with fail
      refine (kill_any hm3 k hk).mono ?_
      rintro e w4 ⟨rfl, hm4, fr4⟩
      go_wp2_with fail
      refine (settle_any hm4).mono ?_
      rintro e w5 ⟨rfl, hm5, fr5⟩
      go_wp2
      go_ret
      exact ⟨rfl, o2, sv2, rv2, hm5, ((fr2.below hb3).trans fr4).trans fr5⟩
  · have he2 : (m.stE n 3 == 0) = false := by simpa using he
    simp only [he2, cond_false]
    generalize m.stE n 3 = E at *
    go_enter Try.func53, Try.ntmps53
    go_wp2_with fail
    refine (k1.out _ h).mono ?_
    rintro e w1 ⟨rfl, rfl⟩
    go_wp2
    go_ret
    exact ⟨rfl, o, sv, rv, h, Fr.refl h.clean⟩

set_option maxRecDepth 100000 in
set_option maxHeartbeats 4000000 in
theorem died_any (h : FMem o q w b m sv rv) (hq : q ≠ 0) (n : Int) (hsent : ∀ c, c < 4 → (m.con c).sent.length ≤ 1000000000000) (hmax : m.req.length ≤ 1000000000000) (hf : ∀ k, k < 6 → m.fair k) :
    Calls Try.prog 54 #[.pointer (some ⟨b, 0, none⟩), .int .i64 n] w fun r w' => r = .returned (.int .i64 (m.diedE n)) ∧ ∃ o' sv' rv', FMem o' q w' b (m.afterDied n) sv' rv' ∧ Fr q o w o' w' := by
  unfold PM.afterDied PM.diedE
  rcases isS_cases n with h0 | ⟨h0, k, hk, rfl⟩
  · simp only [h0, cond_false]
    go_enter Try.func54, Try.ntmps54
    go_wp2_with fail
    refine (isSlot_any _ _).mono ?_
    rintro e w1 ⟨rfl, rfl⟩
    rw [h0]
    go_wp2
    go_ret
    exact ⟨rfl, o, sv, rv, h, Fr.refl h.clean⟩
  · obtain ⟨c0, -⟩ := h.slotc hk
    have hkI : (k : Int) < 6 := by omega
    simp only [h0, cond_true, Int.toNat_natCast]
    by_cases hs : (m.slot k).st = 0
    · rw [hs] at c0
      simp only [hs, beq_self_eq_true, cond_true]
      clear hs
      go_enter Try.func54, Try.ntmps54
      go_wp2_with fail
      refine (isSlot_any _ _).mono ?_
      rintro e w1 ⟨rfl, rfl⟩
      rw [h0]
      go_wp2
      go_ret
      exact ⟨rfl, o, sv, rv, h, Fr.refl h.clean⟩
    · have hs2 : ((m.slot k).st == 0) = false := by simpa using hs
      simp only [hs2, cond_false, beq_self_eq_true, cond_true]
      unfold PM.died
      have ke : Hid (∀ w', FMem o q w' b m sv rv → Calls Try.prog 78 #[.pointer (some ⟨b, 0, none⟩), .int .i64 (k : Nat), .int .i64 1] w' fun r w'' => r = .returned (.tuple #[]) ∧ ∃ o' sv' rv', FMem o' q w'' b (m.endKeyOf k 1) sv' rv' ∧ Fr q o w' o' w'') := fun w' h' => endKeyOf_any h' hq k hk (hf k hk) 1 (by omega) (by omega) hsent hmax
      generalize m.endKeyOf k 1 = M at *
      unfold PM.empties
      generalize (m.slot k).st = st0 at *
      go_enter Try.func54, Try.ntmps54
      go_wp2_with fail
      refine (isSlot_any _ _).mono ?_
      rintro e w1 ⟨rfl, rfl⟩
      rw [h0]
      go_wp2_with fail
      refine (ke.out _ h).mono ?_
      rintro e w2 ⟨rfl, o2, sv2, rv2, hm2, fr2⟩
      clear c0 ke
      go_wp2_with fail
      have hmd := hm2.below (Below.refl _ _).drew
      go_region_held3 (fun w' => True) (trivial) (first | (go_at_call 74; refine (newPlace_any _ _).mono ?_; rintro e w3 ⟨rfl, hb3⟩; have hm3 := hmd.below hb3; obtain ⟨d0, d1, d2, d3, d4, d5, d6⟩ := hm3.slotc hk; have fz := hm3.frozen))
      have hm4 := hm3.putSlot hk (newSlot 0)
      have fr4 := hm3.fr_put hm4 (by simp [World.setCell]) (by simp [World.setCell]) (by simp [World.setCell]) (by simp [World.setCell]) (by intro g hg; repeat rw [Below.heap_setCell _ _ _ g (by simpa using hg)])
      have fr3 : Fr q o w1 o2 w3 := fr2.trans ((Fr.of_below hm2.clean (Below.refl _ _).drew).trans (Fr.of_below hmd.clean hb3))
      go_wp2_with fail
      refine (settle_any hm4).mono ?_
      rintro e w5 ⟨rfl, hm5, fr5⟩
      clear d0 d1 d2 d3 d4 d5 d6 fz
      go_wp2
      go_ret
      exact ⟨rfl, o2, sv2, rv2, hm5, (fr3.trans fr4).trans fr5⟩

end
end Go.Proofs.Ytlafkpaljibonaa

namespace Go.Proofs.Ytlafkpaljibonaa
open Go.RowKit

theorem own_empty {w : World} {base : Nat} {e : TypeId} {size : Nat} {v : Value} {xs : List Value} (h : w.ownsRow base e size v 0 xs) : ∃ a c, v = .slice a 0 c := by
  rcases h.2 with ⟨rfl, _⟩ | ⟨g, cap, cur, rfl, _⟩
  · exact ⟨_, _, rfl⟩
  · exact ⟨_, _, rfl⟩

theorem own_cells {w : World} {base g c : Nat} {l : List Rec} (h : w.ownsRow base 23 3 (.slice (some ⟨g, 0, none⟩) l.length c) l.length (rowOf l)) :
    ∀ k (hk : k < l.length), w.cell? ⟨g, k * 3, none⟩ = some (.int .i64 l[k].1) ∧ w.cell? ⟨g, k * 3 + 1, none⟩ = some (.int .i64 l[k].2.1) ∧ w.cell? ⟨g, k * 3 + 2, none⟩ = some (.string l[k].2.2) := by
  intro k hk
  have := rowOf_get l k hk
  rw [Nat.mul_comm 3 k] at this
  rw [h.cellAt _ (by omega), h.cellAt _ (by omega), h.cellAt _ (by omega)]
  exact this

set_option maxRecDepth 100000 in
set_option maxHeartbeats 1000000 in
theorem sameRecords_nil (a b : Option Addr) (c d : Nat) (w : World) :
    Calls Try.prog 47 #[.slice a 0 c, .slice b 0 d] w fun r w' => r = .returned (.bool true) ∧ ∃ n, w' = w.drewN n := by
  go_enter Try.func47, Try.ntmps47
  go_wp2
  refine wp_loop_rounds 1 ?_
  rw [rounds_succ]
  go_wp2
  go_ret
  exact ⟨rfl, 0, rfl⟩

set_option maxRecDepth 100000 in
set_option maxHeartbeats 1000000 in
theorem sameRecords_some (g1 g2 c1 c2 : Nat) (l : List Rec) (w : World) (hl : l.length ≤ 1000000000000)
    (h1 : ∀ k (hk : k < l.length), w.cell? ⟨g1, k * 3, none⟩ = some (.int .i64 l[k].1) ∧ w.cell? ⟨g1, k * 3 + 1, none⟩ = some (.int .i64 l[k].2.1) ∧ w.cell? ⟨g1, k * 3 + 2, none⟩ = some (.string l[k].2.2))
    (h2 : ∀ k (hk : k < l.length), w.cell? ⟨g2, k * 3, none⟩ = some (.int .i64 l[k].1) ∧ w.cell? ⟨g2, k * 3 + 1, none⟩ = some (.int .i64 l[k].2.1) ∧ w.cell? ⟨g2, k * 3 + 2, none⟩ = some (.string l[k].2.2)) :
    Calls Try.prog 47 #[.slice (some ⟨g1, 0, none⟩) l.length c1, .slice (some ⟨g2, 0, none⟩) l.length c2] w fun r w' => r = .returned (.bool true) ∧ ∃ n, w' = w.drewN n := by
  go_enter Try.func47, Try.ntmps47
  go_wp2
  go_loopw [5] (fun i w' => ∃ k m : Nat, k ≤ l.length ∧ i = .int .i64 k ∧ w' = w.drewN m) (fun i _ => l.length - (intOf i).toNat)
  case atStart => exact ⟨0, 0, Nat.zero_le _, rfl, rfl⟩
  case round =>
    obtain ⟨k, m, hk, rfl, rfl⟩ := hrel
    by_cases hlt : k < l.length
    · obtain ⟨p1, p2, p3⟩ := h1 k hlt
      obtain ⟨q1, q2, q3⟩ := h2 k hlt
      clear h1 h2
      generalize l[k] = r at *
      go_wp2
      go_quiet (fail)
      go_wp2
      exact ⟨⟨k + 1, m + nq, by omega, by go_num, rfl⟩, by simp [intOf]; omega⟩
    · go_wp2
      go_ret
      exact ⟨rfl, m, rfl⟩

theorem sameRecords_own (va vb : Value) (b1 b2 : Nat) (l : List Rec) (w : World) (hl : l.length ≤ 1000000000000)
    (h1 : w.ownsRow b1 23 3 va l.length (rowOf l)) (h2 : w.ownsRow b2 23 3 vb l.length (rowOf l)) :
    Calls Try.prog 47 #[va, vb] w fun r w' => r = .returned (.bool true) ∧ ∃ n, w' = w.drewN n := by
  by_cases h0 : l.length = 0
  · rw [h0] at h1 h2
    obtain ⟨a, c, rfl⟩ := own_empty h1
    obtain ⟨b, d, rfl⟩ := own_empty h2
    exact sameRecords_nil a b c d w
  · obtain ⟨g1, c1, rfl, -, -⟩ := h1.form (by omega)
    obtain ⟨g2, c2, rfl, -, -⟩ := h2.form (by omega)
    exact sameRecords_some g1 g2 c1 c2 l w hl (own_cells h1) (own_cells h2)

set_option maxRecDepth 100000 in
set_option maxHeartbeats 1000000 in
theorem same_nil (a b : Option Addr) (c d : Nat) (w : World) :
    Calls Try.prog 20 #[.slice a 0 c, .slice b 0 d] w fun r w' => r = .returned (.bool true) ∧ ∃ n, w' = w.drewN n := by
  go_enter Try.func20, Try.ntmps20
  go_wp2
  refine wp_loop_rounds 1 ?_
  rw [rounds_succ]
  go_wp2
  go_ret
  exact ⟨rfl, 0, rfl⟩

set_option maxRecDepth 100000 in
set_option maxHeartbeats 1000000 in
theorem same_some (g1 g2 c1 c2 : Nat) (l : List Rec) (w : World) (hl : l.length ≤ 1000000000000)
    (h1 : ∀ k (hk : k < l.length), w.cell? ⟨g1, k * 3, none⟩ = some (.int .i64 l[k].1) ∧ w.cell? ⟨g1, k * 3 + 1, none⟩ = some (.int .i64 l[k].2.1) ∧ w.cell? ⟨g1, k * 3 + 2, none⟩ = some (.string l[k].2.2))
    (h2 : ∀ k (hk : k < l.length), w.cell? ⟨g2, k * 3, none⟩ = some (.int .i64 l[k].1) ∧ w.cell? ⟨g2, k * 3 + 1, none⟩ = some (.int .i64 l[k].2.1) ∧ w.cell? ⟨g2, k * 3 + 2, none⟩ = some (.string l[k].2.2)) :
    Calls Try.prog 20 #[.slice (some ⟨g1, 0, none⟩) l.length c1, .slice (some ⟨g2, 0, none⟩) l.length c2] w fun r w' => r = .returned (.bool true) ∧ ∃ n, w' = w.drewN n := by
  go_enter Try.func20, Try.ntmps20
  go_wp2
  go_loopw [5] (fun i w' => ∃ k m : Nat, k ≤ l.length ∧ i = .int .i64 k ∧ w' = w.drewN m) (fun i _ => l.length - (intOf i).toNat)
  case atStart => exact ⟨0, 0, Nat.zero_le _, rfl, rfl⟩
  case round =>
    obtain ⟨k, m, hk, rfl, rfl⟩ := hrel
    by_cases hlt : k < l.length
    · obtain ⟨p1, p2, p3⟩ := h1 k hlt
      obtain ⟨q1, q2, q3⟩ := h2 k hlt
      clear h1 h2
      generalize l[k] = r at *
      go_wp2
      go_quiet (fail)
      go_wp2
      exact ⟨⟨k + 1, m + nq, by omega, by go_num, rfl⟩, by simp [intOf]; omega⟩
    · go_wp2
      go_ret
      exact ⟨rfl, m, rfl⟩

theorem same_own (va vb : Value) (b1 b2 : Nat) (l : List Rec) (w : World) (hl : l.length ≤ 1000000000000)
    (h1 : w.ownsRow b1 23 3 va l.length (rowOf l)) (h2 : w.ownsRow b2 23 3 vb l.length (rowOf l)) :
    Calls Try.prog 20 #[va, vb] w fun r w' => r = .returned (.bool true) ∧ ∃ n, w' = w.drewN n := by
  by_cases h0 : l.length = 0
  · rw [h0] at h1 h2
    obtain ⟨a, c, rfl⟩ := own_empty h1
    obtain ⟨b, d, rfl⟩ := own_empty h2
    exact same_nil a b c d w
  · obtain ⟨g1, c1, rfl, -, -⟩ := h1.form (by omega)
    obtain ⟨g2, c2, rfl, -, -⟩ := h2.form (by omega)
    exact same_some g1 g2 c1 c2 l w hl (own_cells h1) (own_cells h2)
end Go.Proofs.Ytlafkpaljibonaa

namespace Go.Proofs.Ytlafkpaljibonaa
open Go.RowKit

def pickI (c n : Int) : Int := (if c < 0 then -(c + 1) else c) % n

theorem pickI_bd (c n : Int) (hn : 0 < n) : 0 ≤ pickI c n ∧ pickI c n < n := ⟨Int.emod_nonneg _ (by omega), Int.emod_lt_of_pos _ hn⟩

theorem neg_tm (c n : Int) (hc : c < 0) : -(c + 1).tmod n = -(c + 1) % n := by
  rw [← Int.neg_tmod, Int.tmod_eq_emod_of_nonneg (by omega)]

set_option maxRecDepth 100000 in
set_option maxHeartbeats 400000 in
theorem pick_any (c n : Int) (w : World) (h0 : -9223372036854775808 ≤ c) (h1 : c ≤ 9223372036854775807) (hn : 0 < n) (hn2 : n ≤ 1000000000) :
    Calls Try.prog 15 #[.int .i64 c, .int .i64 n] w fun r w' => r = .returned (.int .i64 (pickI c n)) ∧ w' = w := by
  have hnz : (n == 0) = false := by simp; omega
  unfold pickI
  by_cases hc : c < 0
  · rw [if_pos hc]
    go_enter Try.func15, Try.ntmps15
    go_wp2
    go_ret
    refine ⟨?_, rfl⟩
    rw [← neg_tm c n hc]; rfl
  · rw [if_neg hc]
    go_enter Try.func15, Try.ntmps15
    go_wp2
    go_ret
    exact ⟨rfl, rfl⟩

def shortB (s : ByteArray) (n : Nat) : ByteArray := if n < s.size then s.extract 0 n else s

set_option maxRecDepth 100000 in
set_option maxHeartbeats 400000 in
theorem short_any (s : ByteArray) (n : Nat) (w : World) (hn : n ≤ 1000000) :
    Calls Try.prog 30 #[.string s, .int .i64 n] w fun r w' => r = .returned (.string (shortB s n)) ∧ w' = w := by
  unfold shortB
  by_cases hc : n < s.size
  · rw [if_pos hc]
    go_enter Try.func30, Try.ntmps30
    go_wp2
    go_ret
    exact ⟨rfl, rfl⟩
  · rw [if_neg hc]
    go_enter Try.func30, Try.ntmps30
    go_wp2
    go_ret
    exact ⟨rfl, rfl⟩

/-- The kinds, by their places. -/
def kindAt (j : Int) : Int := if j = 0 then 1 else if j = 1 then 2 else if j = 2 then 3 else if j = 3 then 5 else 6

theorem kindAt_ok (j : Int) : isKindB (kindAt j) = true := by
  unfold kindAt
  split
  · rfl
  · split
    · rfl
    · split
      · rfl
      · split <;> rfl

def shK (k : Int) : Int := kindAt (pickI k 5)
def shI (i : Int) : Int := 1 + pickI i 65535
def shC (c : ByteArray) : ByteArray := shortB c 200

theorem arr5 (w : World) (g : Nat) (hg : w.heap.size = g) (j : Int) (h0 : 0 ≤ j) (h5 : j < 5) (T : TypeId) :
    (w.alloc (.cells #[.int .i64 1, .int .i64 2, .int .i64 3, .int .i64 5, .int .i64 6] T)).cell? ⟨g, j.toNat, none⟩ = some (.int .i64 (kindAt j)) := by
  rw [World.cell?_alloc_at _ _ _ _ hg.symm]
  have : j = 0 ∨ j = 1 ∨ j = 2 ∨ j = 3 ∨ j = 4 := by omega
  rcases this with rfl | rfl | rfl | rfl | rfl <;> rfl

/-- The world of 'shaped' ahead of its last statement. -/
def shW (w : World) (k i : Int) (c : ByteArray) : World :=
  ((w.alloc (.cells #[.int .i64 k, .int .i64 i, .string c] 23)).alloc (.cells #[.int .i64 0, .int .i64 0, .string ⟨#[]⟩] 23)).alloc (.cells #[.int .i64 1, .int .i64 2, .int .i64 3, .int .i64 5, .int .i64 6] 89)

structure ShF (w W : World) (k i : Int) (c : ByteArray) (j : Int) : Prop where
  a0 : W.cell? ⟨w.heap.size, 0, none⟩ = some (.int .i64 k)
  a1 : W.cell? ⟨w.heap.size, 1, none⟩ = some (.int .i64 i)
  a2 : W.cell? ⟨w.heap.size, 2, none⟩ = some (.string c)
  b0 : W.cell? ⟨w.heap.size + 1, 0, none⟩ = some (.int .i64 0)
  b1 : W.cell? ⟨w.heap.size + 1, 1, none⟩ = some (.int .i64 0)
  b2 : W.cell? ⟨w.heap.size + 1, 2, none⟩ = some (.string ⟨#[]⟩)
  fz : ∀ o, W.frozen? ⟨w.heap.size + 1, o, none⟩ = false
  c0 : W.cell? ⟨w.heap.size + 1 + 1, j.toNat, none⟩ = some (.int .i64 (kindAt j))
  bel : Below w.heap.size w W

theorem shF (w : World) (k i : Int) (c : ByteArray) (j : Int) (h0 : 0 ≤ j) (h5 : j < 5) : ShF w (shW w k i c) k i c j := by
  refine ⟨?_, ?_, ?_, ?_, ?_, ?_, ?_, ?_, ?_⟩
  · simp [shW, go_sem]
  · simp [shW, go_sem]
  · simp [shW, go_sem]
  · simp [shW, go_sem]
  · simp [shW, go_sem]
  · simp [shW, go_sem]
  · intro o; simp [shW, go_sem]
  · exact arr5 _ _ (by simp) j h0 h5 _
  · exact (((Below.refl _ _).alloc (Nat.le_refl _) _).alloc (by simp) _).alloc (by simp; omega) _

set_option maxRecDepth 100000 in
set_option maxHeartbeats 2000000 in
theorem shaped_any (k i : Int) (c : ByteArray) (w : World) (k0 : -9223372036854775808 ≤ k) (k1 : k ≤ 9223372036854775807) (i0 : -9223372036854775808 ≤ i) (i1 : i ≤ 9223372036854775807) :
    Calls Try.prog 14 #[.agg #[.int .i64 k, .int .i64 i, .string c]] w fun r w' => r = .returned (.agg #[.int .i64 (shK k), .int .i64 (shI i), .string (shC c)]) ∧ Below w.heap.size w w' := by
  unfold shK shI shC
  have pk := pickI_bd k 5 (by omega)
  have pi := pickI_bd i 65535 (by omega)
  have hF := shF w k i c _ pk.1 pk.2
  have ck : ∀ wx, Calls Try.prog 15 #[.int .i64 k, .int .i64 5] wx fun r w' => r = .returned (.int .i64 (pickI k 5)) ∧ w' = wx := fun wx => pick_any k 5 wx k0 k1 (by omega) (by omega)
  have ci : ∀ wx, Calls Try.prog 15 #[.int .i64 i, .int .i64 65535] wx fun r w' => r = .returned (.int .i64 (pickI i 65535)) ∧ w' = wx := fun wx => pick_any i 65535 wx i0 i1 (by omega) (by omega)
  have cc : ∀ wx, Calls Try.prog 30 #[.string c, .int .i64 200] wx fun r w' => r = .returned (.string (shortB c 200)) ∧ w' = wx := fun wx => short_any c 200 wx (by omega)
  generalize pickI k 5 = pk5 at *
  generalize pickI i 65535 = pi6 at *
  generalize shortB c 200 = c2 at *
  have CK := (show Hid _ from ck)
  have CI := (show Hid _ from ci)
  have CC := (show Hid _ from cc)
  clear ck ci cc
  go_enter Try.func14, Try.ntmps14
  go_wp2
  change Code.wp _ _ _ _ (shW w k i c)
  generalize shW w k i c = W at *
  obtain ⟨a0, a1, a2, b0, b1, b2, fz, c0, bel⟩ := hF
  have hw : IntKind.i64.wrap (1 + pi6) = 1 + pi6 := wrap_ok (by omega) (by omega)
  go_region_held3 (fun w' => w'.cell? ⟨w.heap.size, 0, none⟩ = some (.int .i64 k) ∧ w'.cell? ⟨w.heap.size, 1, none⟩ = some (.int .i64 i) ∧ w'.cell? ⟨w.heap.size, 2, none⟩ = some (.string c) ∧ w'.cell? ⟨w.heap.size + 1 + 1, pk5.toNat, none⟩ = some (.int .i64 (kindAt pk5))) (go_keep)
    (first | (go_at_call_of 15 (Value.int IntKind.i64 k); refine (CK.out _).mono ?_; rintro e w' ⟨rfl, rfl⟩) | (go_at_call_of 15 (Value.int IntKind.i64 i); refine (CI.out _).mono ?_; rintro e w' ⟨rfl, rfl⟩) | (go_at_call 30; refine (CC.out _).mono ?_; rintro e w' ⟨rfl, rfl⟩))
  go_wp2
  refine bodyPost_ret (v := .agg #[.int .i64 (kindAt pk5), .int .i64 (1 + pi6), .string c2]) (by simp [results, Try.results14, go_sem, b0, b1, b2]) rfl ⟨rfl, ?_⟩
  exact (((bel.setCell (by simp) _).setCell (by simp) _).setCell (by simp) _).drew

/-- The padding that 'bytes' writes. -/
def padL (n : Nat) : List Int := (List.range n).map fun (j : Nat) => 17 * (j : Int)

theorem padL_succ (n : Nat) : padL (n + 1) = padL n ++ [17 * (n : Int)] := by simp [padL, List.range_succ]
theorem padL_length (n : Nat) : (padL n).length = n := by simp [padL]

def headL (k i : Int) (c p : Int) : List Int := [1, k, i / 256, i % 256, 0, c, p, 0]

theorem enc_padL (k i : Int) (c : ByteArray) (n : Nat) : enc k i c (padL n) = strOfNums (headL k i c.size n ++ nums c ++ padL n) := by
  simp [enc, headL, padL_length]

theorem str_push (a : List Int) (x : Int) : strOfNums a ++ strOfNums [x] = strOfNums (a ++ [x]) := strOfNums_append a [x]

set_option maxRecDepth 100000 in
set_option maxHeartbeats 2000000 in
theorem bytes_any (k i : Int) (c : ByteArray) (n : Nat) (w : World) (hk : 1 ≤ k ∧ k ≤ 6) (hi : 1 ≤ i ∧ i ≤ 65535) (hc : (c.size : Int) ≤ 200) (hn : n ≤ 7) :
    Calls Try.prog 16 #[.int .i64 k, .int .i64 i, .string c, .int .i64 n] w fun r w' => r = .returned (.string (enc k i c (padL n))) ∧ Below w.heap.size w w' := by
  have hm : (c.size : Int) % 256 = c.size := by omega
  have hnm : (n : Int) % 256 = n := by omega
  have hcv := conv_lit w w.heap.size rfl 8 (headL k i c.size n) #[.int .u8 1, .int .u8 k, .int .u8 (i / 256), .int .u8 (i % 256), .int .u8 0, .int .u8 c.size, .int .u8 n, .int .u8 0] rfl rfl (by omega)
  have hsz : (strOfNums (headL k i c.size n)).size = 8 := by simp [strOfNums_size, headL]
  rw [enc_padL]
  generalize headL k i c.size n = hd at *
  go_enter Try.func16, Try.ntmps16
  go_wp2
  clear hcv
  go_loopw [9, 10] (fun v j w' => ∃ m : Nat, m ≤ n ∧ j = .int .i64 m ∧ v = .string (strOfNums (hd ++ nums c ++ padL m)) ∧ Below w.heap.size w w') (fun _ j _ => n - (intOf j).toNat)
  case atStart =>
    refine ⟨0, Nat.zero_le _, rfl, ?_, (Below.refl _ _).alloc (Nat.le_refl _) _⟩
    have := strOfNums_append hd (nums c)
    rw [strOfNums_nums] at this
    rw [this]; simp [padL]
  case round =>
    obtain ⟨m, hm2, rfl, rfl, hb⟩ := hrel
    have hb' := hb.size
    by_cases hlt : m < n
    · have hcv2 := conv_lit wr wr.heap.size rfl 1 [17 * (m : Int)] #[.int .u8 (17 * (m : Int))] rfl rfl (by omega)
      have hpu := str_push (hd ++ nums c ++ padL m) (17 * (m : Int))
      have hl : (strOfNums (hd ++ nums c ++ padL m)).size ≤ 1000 := by
        have h8 := hsz
        rw [strOfNums_size] at h8
        simp [strOfNums_size, nums_length, padL_length]; omega
      have hl1 : (strOfNums [17 * (m : Int)]).size = 1 := by simp [strOfNums_size]
      rw [show hd ++ nums c ++ padL m ++ [17 * (m : Int)] = hd ++ nums c ++ padL (m + 1) from by rw [padL_succ, List.append_assoc]] at hpu
      generalize strOfNums [17 * (m : Int)] = one at *
      generalize strOfNums (hd ++ nums c ++ padL m) = cur at *
      have HP : Hid _ := hpu
      clear hpu
      have h256 : (17 * (m : Int)) % 256 = 17 * m := by omega
      go_wp2
      refine ⟨⟨m + 1, by omega, by go_num, by rw [HP.out], hb.alloc (by omega) _⟩, by simp [intOf]; omega⟩
    · have : m = n := by omega
      subst this
      go_wp2
      go_ret
      exact ⟨rfl, hb⟩

theorem enc_size (k i : Int) (c : ByteArray) (p : List Int) : (enc k i c p).size = 8 + c.size + p.length := by
  simp [enc, strOfNums_size, nums_length]; omega

def tailB (k i : Int) (c : ByteArray) (less : Int) (n : Nat) : ByteArray :=
  (enc k i c (padL n)).extract 0 ((8 + c.size + n : Nat) - 1 - pickI less (8 + c.size + n : Nat)).toNat

set_option maxRecDepth 100000 in
set_option maxHeartbeats 2000000 in
theorem tail_any (k i : Int) (c : ByteArray) (less : Int) (n : Nat) (w : World) (hk : 1 ≤ k ∧ k ≤ 6) (hi : 1 ≤ i ∧ i ≤ 65535) (hc : (c.size : Int) ≤ 200) (hn : n ≤ 7) (h0 : -9223372036854775808 ≤ less) (h1 : less ≤ 9223372036854775807) :
    Calls Try.prog 18 #[.agg #[.int .i64 k, .int .i64 i, .string c], .int .i64 less, .int .i64 n] w fun r w' => r = .returned (.string (tailB k i c less n)) ∧ Below w.heap.size w w' := by
  have hsz := enc_size k i c (padL n)
  rw [padL_length] at hsz
  have hT : tailB k i c less n = (enc k i c (padL n)).extract 0 ((8 + c.size + n : Nat) - 1 - pickI less (8 + c.size + n : Nat)).toNat := rfl
  generalize hTT : tailB k i c less n = T at *
  clear hTT
  have hbytes := fun wx => bytes_any k i c n wx hk hi hc hn
  generalize enc k i c (padL n) = E at *
  have hN : 8 + c.size + n ≤ 1000 := by omega
  have hN8 : 8 ≤ 8 + c.size + n := by omega
  generalize 8 + c.size + n = N at *
  have pb := pickI_bd less N (by omega)
  have cp := fun wx => pick_any less N wx h0 h1 (by omega) (by omega)
  generalize pickI less N = pl at *
  have CP : Hid _ := cp
  have CB : Hid _ := hbytes
  clear cp hbytes
  subst hsz
  have HT : Hid _ := hT
  clear hT
  have hs : ∀ wx : World, (Instr.slice 9 (.string E) none (some (.int .i64 ((E.size : Int) - 1 - pl))) none).run Try.prog wx = .ok (.string (E.extract 0 ((E.size : Int) - 1 - pl).toNat)) wx := by
    intro wx
    rw [run_slice_string_to_if wx 9 E .i64 ((E.size : Int) - 1 - pl) Try.underlying9, if_pos (by omega)]
  go_enter Try.func18, Try.ntmps18
  go_wp2_with fail
  refine (CB.out _).mono ?_
  rintro e w1 ⟨rfl, b1⟩
  have a1 : Below w.heap.size w w1 := ((Below.refl _ _).alloc (Nat.le_refl _) _).trans (b1.mono (by simp))
  clear b1
  go_wp2_with fail
  refine (CP.out _).mono ?_
  rintro e w2 ⟨rfl, rfl⟩
  go_wp2
  go_ret
  exact ⟨by rw [HT.out]; rfl, a1⟩

def wrongAt (j : Int) : ByteArray :=
  if j = 0 then ⟨#[0, 1, 0, 1, 0, 1, 0, 0]⟩ else if j = 1 then ⟨#[2, 5, 0, 1, 0, 0, 0, 0]⟩ else if j = 2 then ⟨#[1, 4, 0, 1, 0, 0, 0, 0]⟩ else if j = 3 then ⟨#[1, 7, 0, 1, 0, 0, 0, 0]⟩ else if j = 4 then ⟨#[1, 5, 0, 0, 0, 1, 0, 0]⟩ else
  if j = 5 then ⟨#[1, 5, 0, 1, 0, 201, 0, 0]⟩ else if j = 6 then ⟨#[1, 5, 0, 1, 1, 0, 0, 0]⟩ else if j = 7 then ⟨#[1, 5, 0, 1, 0, 1, 8, 0]⟩ else ⟨#[1, 5, 0, 1, 0, 1, 0, 1]⟩

theorem arr9 (w : World) (j : Int) (h0 : 0 ≤ j) (h9 : j < 9) (T : TypeId) : (w.alloc (.cells #[.string ⟨#[0, 1, 0, 1, 0, 1, 0, 0]⟩, .string ⟨#[2, 5, 0, 1, 0, 0, 0, 0]⟩, .string ⟨#[1, 4, 0, 1, 0, 0, 0, 0]⟩, .string ⟨#[1, 7, 0, 1, 0, 0, 0, 0]⟩, .string ⟨#[1, 5, 0, 0, 0, 1, 0, 0]⟩, .string ⟨#[1, 5, 0, 1, 0, 201, 0, 0]⟩, .string ⟨#[1, 5, 0, 1, 1, 0, 0, 0]⟩, .string ⟨#[1, 5, 0, 1, 0, 1, 8, 0]⟩, .string ⟨#[1, 5, 0, 1, 0, 1, 0, 1]⟩] T)).cell? ⟨w.heap.size, j.toNat, none⟩ = some (.string (wrongAt j)) := by
  rw [World.cell?_alloc_at _ _ _ _ rfl]
  have : j = 0 ∨ j = 1 ∨ j = 2 ∨ j = 3 ∨ j = 4 ∨ j = 5 ∨ j = 6 ∨ j = 7 ∨ j = 8 := by omega
  rcases this with rfl | rfl | rfl | rfl | rfl | rfl | rfl | rfl | rfl <;> rfl

set_option maxRecDepth 100000 in
set_option maxHeartbeats 2000000 in
theorem wrong_any (k : Int) (w : World) (h0 : -9223372036854775808 ≤ k) (h1 : k ≤ 9223372036854775807) :
    Calls Try.prog 19 #[.int .i64 k] w fun r w' => r = .returned (.string (wrongAt (pickI k 9))) ∧ Below w.heap.size w w' := by
  have pb := pickI_bd k 9 (by omega)
  have cp := fun wx => pick_any k 9 wx h0 h1 (by omega) (by omega)
  generalize pickI k 9 = j at *
  have CP : Hid _ := cp
  clear cp
  have hcell := arr9 w j pb.1 pb.2 90
  go_enter Try.func19, Try.ntmps19
  go_wp2_with fail
  refine (CP.out _).mono ?_
  rintro e w2 ⟨rfl, rfl⟩
  have hb : Below w.heap.size w (w.alloc (.cells #[.string ⟨#[0, 1, 0, 1, 0, 1, 0, 0]⟩, .string ⟨#[2, 5, 0, 1, 0, 0, 0, 0]⟩, .string ⟨#[1, 4, 0, 1, 0, 0, 0, 0]⟩, .string ⟨#[1, 7, 0, 1, 0, 0, 0, 0]⟩, .string ⟨#[1, 5, 0, 0, 0, 1, 0, 0]⟩, .string ⟨#[1, 5, 0, 1, 0, 201, 0, 0]⟩, .string ⟨#[1, 5, 0, 1, 1, 0, 0, 0]⟩, .string ⟨#[1, 5, 0, 1, 0, 1, 8, 0]⟩, .string ⟨#[1, 5, 0, 1, 0, 1, 0, 1]⟩] 90)) := (Below.refl _ _).alloc (Nat.le_refl _) _
  generalize w.alloc (.cells #[.string ⟨#[0, 1, 0, 1, 0, 1, 0, 0]⟩, .string ⟨#[2, 5, 0, 1, 0, 0, 0, 0]⟩, .string ⟨#[1, 4, 0, 1, 0, 0, 0, 0]⟩, .string ⟨#[1, 7, 0, 1, 0, 0, 0, 0]⟩, .string ⟨#[1, 5, 0, 0, 0, 1, 0, 0]⟩, .string ⟨#[1, 5, 0, 1, 0, 201, 0, 0]⟩, .string ⟨#[1, 5, 0, 1, 1, 0, 0, 0]⟩, .string ⟨#[1, 5, 0, 1, 0, 1, 8, 0]⟩, .string ⟨#[1, 5, 0, 1, 0, 1, 0, 1]⟩] 90) = W at *
  go_wp2
  go_ret
  exact ⟨rfl, hb⟩
end Go.Proofs.Ytlafkpaljibonaa

namespace Go.Proofs.Ytlafkpaljibonaa
open Go.RowKit

def encL (r : Rec) (p : List Int) : List Int := [1, r.1, r.2.1 / 256, r.2.1 % 256, 0, (r.2.2.size : Int), (p.length : Int), 0] ++ nums r.2.2 ++ p

theorem enc_encL (k i : Int) (c : ByteArray) (p : List Int) : enc k i c p = strOfNums (encL (k, i, c) p) := rfl

theorem encL_length (r : Rec) (p : List Int) : (encL r p).length = 8 + r.2.2.size + p.length := by simp [encL, nums_length]; omega

theorem str_extract (l : List Int) (a b : Nat) : (strOfNums l).extract a b = strOfNums ((l.drop a).take (b - a)) := by
  apply ByteArray.ext
  apply Array.ext'
  simp [strOfNums, ByteArray.data_extract, List.extract_eq_take_drop, List.map_take, List.map_drop]

theorem str_left (l : List Int) (i : Nat) : left (strOfNums l) i = strOfNums (l.drop i) := by
  unfold left
  rw [str_extract, strOfNums_size]
  congr 1
  rw [List.take_of_length_le (by simp)]

/-- Numbers that are bytes. -/
def Byts (l : List Int) : Prop := ∀ x ∈ l, 0 ≤ x ∧ x ≤ 255

theorem byt_str (l : List Int) (j : Nat) (x : Int) (h : l[j]? = some x) (hx : 0 ≤ x ∧ x ≤ 255) : byt (strOfNums l) j = x := by
  unfold byt strOfNums
  have : ((l.map fun n => UInt8.ofNat n.toNat).toArray).getD j 0 = UInt8.ofNat x.toNat := by
    simp [Array.getD_eq_getD_getElem?, List.getElem?_map, h]
  show (((l.map fun n => UInt8.ofNat n.toNat).toArray.getD j 0).toNat : Int) = x
  rw [this]
  simp
  omega

structure Good (r : Rec) (p : List Int) : Prop where
  al : allowedB r.1 r.2.1 r.2.2.size = true
  pl : p.length ≤ 7

/-- What the head of a record says, when its eight bytes stand there. -/
theorem head_enc (r : Rec) (p l : List Int) (hg : Good r p) (hl : l.take 8 = [1, r.1, r.2.1 / 256, r.2.1 % 256, 0, (r.2.2.size : Int), (p.length : Int), 0]) :
    hKind (strOfNums l) = r.1 ∧ hId (strOfNums l) = r.2.1 ∧ hLen (strOfNums l) = r.2.2.size ∧ hPad (strOfNums l) = p.length ∧ badT (strOfNums l) = false := by
  obtain ⟨hk, k1, k6, i1, i2, c1⟩ := allowedB_bd hg.al
  have hp := hg.pl
  have get : ∀ j x, ([1, r.1, r.2.1 / 256, r.2.1 % 256, 0, (r.2.2.size : Int), (p.length : Int), 0] : List Int)[j]? = some x → j < 8 → l[j]? = some x := by
    intro j x hx hj
    rw [← hl, List.getElem?_take, if_pos hj] at hx
    exact hx
  have g0 := byt_str l 0 _ (get 0 _ rfl (by omega)) (by omega)
  have g1 := byt_str l 1 _ (get 1 _ rfl (by omega)) (by omega)
  have g2 := byt_str l 2 _ (get 2 _ rfl (by omega)) (by omega)
  have g3 := byt_str l 3 _ (get 3 _ rfl (by omega)) (by omega)
  have g4 := byt_str l 4 _ (get 4 _ rfl (by omega)) (by omega)
  have g5 := byt_str l 5 _ (get 5 _ rfl (by omega)) (by omega)
  have g6 := byt_str l 6 _ (get 6 _ rfl (by omega)) (by omega)
  have g7 := byt_str l 7 _ (get 7 _ rfl (by omega)) (by omega)
  have e1 : hKind (strOfNums l) = r.1 := g1
  have e2 : hId (strOfNums l) = r.2.1 := by unfold hId; rw [g2, g3]; omega
  have e3 : hLen (strOfNums l) = r.2.2.size := by unfold hLen; rw [g4, g5]; omega
  have e4 : hPad (strOfNums l) = p.length := g6
  refine ⟨e1, e2, e3, e4, ?_⟩
  unfold badT badB
  rw [e1, e2, e3, e4, g0, g7, hg.al]
  simp
  omega

theorem take8_enc (r : Rec) (p rest : List Int) : (encL r p ++ rest).take 8 = [1, r.1, r.2.1 / 256, r.2.1 % 256, 0, (r.2.2.size : Int), (p.length : Int), 0] := by
  simp [encL]

theorem step_enc (r : Rec) (p rest : List Int) (hg : Good r p) :
    code (strOfNums (encL r p ++ rest)) = 2 ∧ recT (strOfNums (encL r p ++ rest)) = r ∧ sizeT (strOfNums (encL r p ++ rest)) = (encL r p).length := by
  obtain ⟨e1, e2, e3, e4, hb⟩ := head_enc r p (encL r p ++ rest) hg (take8_enc r p rest)
  have hlen := encL_length r p
  have hsz : (strOfNums (encL r p ++ rest)).size = (encL r p).length + rest.length := by rw [strOfNums_size, List.length_append]
  refine ⟨?_, ?_, ?_⟩
  · unfold code
    rw [if_neg (by rw [hsz]; omega), hb, if_neg (by simp), if_neg (by rw [hsz, e3, e4]; omega)]
  · unfold recT
    rw [e1, e2, e3, str_extract]
    have : List.take ((8 + (r.2.2.size : Int)).toNat - 8) (List.drop 8 (encL r p ++ rest)) = nums r.2.2 := by
      have e : (8 + (r.2.2.size : Int)).toNat - 8 = (nums r.2.2).length := by rw [nums_length]; omega
      rw [e]
      have d : List.drop 8 (encL r p ++ rest) = nums r.2.2 ++ (p ++ rest) := by simp [encL]
      rw [d, List.take_left]
    rw [this, strOfNums_nums]
  · unfold sizeT
    rw [e3, e4, hlen]; omega

theorem code_tail (r : Rec) (p : List Int) (hg : Good r p) (m : Nat) (hm : m < (encL r p).length) : code (strOfNums ((encL r p).take m)) = 0 := by
  have hlen := encL_length r p
  have hsz : (strOfNums ((encL r p).take m)).size = m := by rw [strOfNums_size, List.length_take]; omega
  unfold code
  by_cases h8 : m < 8
  · rw [if_pos (by rw [hsz]; omega)]
  · obtain ⟨e1, e2, e3, e4, hb⟩ := head_enc r p ((encL r p).take m) hg (by
      have := take8_enc r p []
      rw [List.append_nil] at this
      rw [List.take_take, Nat.min_eq_left (by omega)]; exact this)
    rw [if_neg (by rw [hsz]; omega), hb, if_neg (by simp), if_pos (by rw [hsz, e3, e4]; omega)]

def encAll (rs : List (Rec × List Int)) : List Int := rs.flatMap fun x => encL x.1 x.2

theorem dec_encs (rs : List (Rec × List Int)) (hg : ∀ x ∈ rs, Good x.1 x.2) (pre t : List Int) (f : Nat) :
    dec (rs.length + f) (strOfNums (pre ++ encAll rs ++ t)) pre.length =
      (rs.map (·.1) ++ (dec f (strOfNums (pre ++ encAll rs ++ t)) (pre ++ encAll rs).length).1, (dec f (strOfNums (pre ++ encAll rs ++ t)) (pre ++ encAll rs).length).2) := by
  induction rs generalizing pre with
  | nil => simp [encAll]
  | cons x rs ih =>
    have e : pre ++ encAll (x :: rs) ++ t = pre ++ encL x.1 x.2 ++ encAll rs ++ t := by simp [encAll]
    have hl : left (strOfNums (pre ++ encAll (x :: rs) ++ t)) pre.length = strOfNums (encL x.1 x.2 ++ (encAll rs ++ t)) := by
      rw [str_left]; congr 1; simp [encAll]
    obtain ⟨h1, h2, h3⟩ := step_enc x.1 x.2 (encAll rs ++ t) (hg x (by simp))
    rw [← hl] at h1 h2 h3
    rw [List.length_cons, show rs.length + 1 + f = (rs.length + f) + 1 from by omega, dec_two h1, h2, h3]
    have := ih (fun y hy => hg y (by simp [hy])) (pre ++ encL x.1 x.2)
    rw [List.length_append] at this
    rw [e, this]
    have e2 : pre ++ encAll (x :: rs) = pre ++ encL x.1 x.2 ++ encAll rs := by simp [encAll]
    rw [e2]
    simp

theorem encAll_len (rs : List (Rec × List Int)) : rs.length ≤ (encAll rs).length := by
  induction rs with
  | nil => simp
  | cons x rs ih => simp only [encAll, List.flatMap_cons, List.length_append, List.length_cons] at ih ⊢; rw [encL_length]; omega

theorem dec_all (rs : List (Rec × List Int)) (hg : ∀ x ∈ rs, Good x.1 x.2) (t : List Int) (e : Int) (he : ∀ f, 0 < f → ∀ s i, left s i = strOfNums t → dec f s i = ([], i, e)) :
    decL (strOfNums (encAll rs ++ t)) = rs.map (·.1) ∧ decN (strOfNums (encAll rs ++ t)) = (encAll rs).length ∧ decE (strOfNums (encAll rs ++ t)) = e := by
  have hlen := encAll_len rs
  obtain ⟨f, hf⟩ : ∃ f, (strOfNums (encAll rs ++ t)).size + 1 = rs.length + (f + 1) := ⟨(strOfNums (encAll rs ++ t)).size - rs.length, by rw [strOfNums_size, List.length_append]; omega⟩
  have h := dec_encs rs hg [] t (f + 1)
  simp only [List.nil_append, List.length_nil] at h
  have hl : left (strOfNums (encAll rs ++ t)) (encAll rs).length = strOfNums t := by rw [str_left]; simp
  rw [he (f + 1) (by omega) _ _ hl] at h
  unfold decL decN decE
  rw [hf, h]
  simp

theorem code_wrong (j : Int) : code (wrongAt j) = 1 := by
  unfold wrongAt
  repeat' split
  all_goals decide +kernel

theorem wrong_str (j : Int) : wrongAt j = strOfNums (nums (wrongAt j)) := (strOfNums_nums _).symm

end Go.Proofs.Ytlafkpaljibonaa
