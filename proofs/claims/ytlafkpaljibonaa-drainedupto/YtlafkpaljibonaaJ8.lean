import Derived.Test.YtlafkpaljibonaaJ7
import Derived.Test.YtlafkpaljibonaaJ2
namespace Go.Proofs.Ytlafkpaljibonaa
open Go.RowKit

/-- Idle, or Starting without being Old. -/
def freshS (st : Int) (old : Bool) : Bool := (st == 2) || ((st == 1) && !old)
def PM.freshTo (m : PM) : Nat → Int
  | 0 => 0
  | k + 1 => m.freshTo k + (if freshS (m.slot k).st (m.slot k).old then 1 else 0)

theorem PM.freshTo_bd (m : PM) (k : Nat) : 0 ≤ m.freshTo k ∧ m.freshTo k ≤ k := by
  induction k with
  | zero => simp [PM.freshTo]
  | succ k ih => simp only [PM.freshTo]; split <;> omega

/-- The last that is Idle. -/
def PM.lastTo (m : PM) : Nat → Option Nat
  | 0 => none
  | k + 1 => cond ((m.slot k).st == 2) (some k) (m.lastTo k)
def PM.killLast (m : PM) : PM := m.killAt (m.lastTo 6)

theorem PM.lastTo_lt (m : PM) : ∀ {k a : Nat}, m.lastTo k = some a → a < k
  | 0, _, h => by simp [PM.lastTo] at h
  | k + 1, a, h => by
    unfold PM.lastTo at h
    cases e : ((m.slot k).st == 2)
    · rw [e] at h
      have := PM.lastTo_lt m h
      omega
    · rw [e] at h
      simp only [cond_true, Option.some.injEq] at h
      omega

def PM.spares (m : PM) : PM := cond (decide (m.freshTo 6 < m.set.mn) && decide (m.usedTo 6 < m.set.ch)) m.startOne (cond (decide (m.set.mx < m.inTo 2 6)) m.killLast m)

section
variable {o : Nat → Tag} {q : Nat} {w : World} {b : Nat} {m : PM} {sv : Nat → Value} {rv : Value}

set_option maxRecDepth 100000 in
set_option maxHeartbeats 4000000 in
theorem spare_any (h : FMem o q w b m sv rv) :
    Calls Try.prog 87 #[.pointer (some ⟨b, 0, none⟩)] w fun r w' => r = .returned (.int .i64 (m.freshTo 6)) ∧ Below w.heap.size w w' := by
  have hl := slots_range h
  have hn := slots_info m
  have hi := index_slots m
  generalize slotsCells m = SC at *
  simp only [PSlot.cells] at hi
  go_enter Try.func87, Try.ntmps87
  go_wp2_with (refine wpList_load_mid rfl 101 (.tmp 9) rfl b 21 rfl SC _ hl Try.underlying101 rfl hn ?_)
  go_loopw [3, 11] (fun c i w' => ∃ k : Nat, k ≤ 6 ∧ c = .int .i64 (m.freshTo k) ∧ i = .int .i64 k ∧ Below w.heap.size w w') (fun _ i _ => 6 - (intOf i).toNat)
  case atStart => exact ⟨0, by omega, rfl, rfl, Below.refl _ _⟩
  case round =>
    obtain ⟨k, hk, rfl, rfl, hb⟩ := hrel
    by_cases hlt : k < 6
    · have hik := hi k hlt
      clear hi hl hn
      have hbd := m.freshTo_bd k
      have HF : Hid (m.freshTo (k + 1) = m.freshTo k + (if freshS (m.slot k).st (m.slot k).old then 1 else 0)) := rfl
      have hbA : ∀ x y, Below w.heap.size w ((wr.alloc x).alloc y) := fun x y => (hb.alloc hb.size x).alloc (by have := hb.size; simp; omega) y
      generalize (m.slot k).st = s0 at *
      generalize (m.slot k).old = old at *
      generalize (m.slot k).served = srv at *
      generalize (m.slot k).since = snc at *
      generalize (m.slot k).conn = cn at *
      generalize (m.slot k).id = id at *
      generalize (m.slot k).job = jb at *
      by_cases h2 : s0 = 2
      · subst h2
        have HF2 : Hid (m.freshTo (k + 1) = m.freshTo k + 1) := HF.out
        clear HF
        go_wp2
        exact ⟨⟨k + 1, by omega, by rw [HF2.out], by go_num, hbA _ _⟩, by simp [intOf]; omega⟩
      · have g2 : (s0 == 2) = false := by simpa using h2
        by_cases h1 : s0 = 1
        · subst h1
          cases old
          · have HF2 : Hid (m.freshTo (k + 1) = m.freshTo k + 1) := HF.out
            clear HF
            go_wp2
            exact ⟨⟨k + 1, by omega, by rw [HF2.out], by go_num, hbA _ _⟩, by simp [intOf]; omega⟩
          · have HF2 : Hid (m.freshTo (k + 1) = m.freshTo k + 0) := HF.out
            clear HF
            go_wp2
            exact ⟨⟨k + 1, by omega, by rw [HF2.out, Int.add_zero], by go_num, hbA _ _⟩, by simp [intOf]; omega⟩
        · have g1 : (s0 == 1) = false := by simpa using h1
          have HF2 : Hid (m.freshTo (k + 1) = m.freshTo k) := by
            show _ = _
            rw [HF.out]
            unfold freshS
            rw [g2, g1]
            simp
          clear HF
          go_wp2
          exact ⟨⟨k + 1, by omega, by rw [HF2.out], by go_num, hbA _ _⟩, by simp [intOf]; omega⟩
    · have : k = 6 := by omega
      subst this
      go_wp2
      go_ret
      exact ⟨rfl, hb⟩

set_option maxRecDepth 100000 in
set_option maxHeartbeats 2000000 in
theorem killLastIdle_any (h : FMem o q w b m sv rv) :
    Calls Try.prog 90 #[.pointer (some ⟨b, 0, none⟩)] w fun r w' => r = .returned (.tuple #[]) ∧ FMem o q w' b m.killLast sv rv ∧ Fr q o w o w' := by
  unfold PM.killLast
  go_enter Try.func90, Try.ntmps90
  go_wp2
  go_loopw [2] (fun i w' => ∃ k : Nat, k ≤ 6 ∧ i = .int .i64 ((k : Int) - 1) ∧ m.lastTo 6 = m.lastTo k ∧ w' = w) (fun i _ => (intOf i + 1).toNat)
  case atStart => exact ⟨6, by omega, rfl, rfl, rfl⟩
  case round =>
    obtain ⟨k, hk, rfl, he, hw⟩ := hrel
    subst hw
    have HE : Hid _ := he
    clear he
    cases k with
    | zero =>
      rw [show (((0 : Nat) : Int) - 1) = -1 from rfl]
      go_wp2
      exact bodyPost_end (v := .tuple #[]) (by simp [results, Try.results90, go_sem]) rfl ⟨rfl, by rw [HE.out]; exact h, Fr.refl h.clean⟩
    | succ k =>
      have hlt : k < 6 := by omega
      have hkI : (k : Int) < 6 := by omega
      rw [show (((k + 1 : Nat) : Int) - 1) = (k : Int) from by omega]
      obtain ⟨c0, -⟩ := h.slotc hlt
      have HS : Hid (m.lastTo (k + 1) = cond ((m.slot k).st == 2) (some k) (m.lastTo k)) := rfl
      by_cases g2 : (m.slot k).st = 2
      · have HS2 : Hid (m.lastTo 6 = some k) := by show _ = _; rw [HE.out, HS.out, g2]; rfl
        clear HS HE
        rw [g2] at c0
        go_wp2_with fail
        refine (kill_any h k hlt).mono ?_
        rintro e w2 ⟨rfl, hm2, fr2⟩
        go_wp2
        exact bodyPost_ret (v := .tuple #[]) (by simp [results, Try.results90, go_sem]) rfl ⟨rfl, by rw [HS2.out]; exact hm2, fr2⟩
      · have g3 : ((m.slot k).st == 2) = false := by simpa using g2
        have HS2 : Hid (m.lastTo 6 = m.lastTo k) := by show _ = _; rw [HE.out, HS.out, g3]; rfl
        clear HS HE
        go_wp2
        exact ⟨⟨k, by omega, by go_num, HS2.out, by first | rfl | trivial⟩, by simp [intOf]⟩

set_option maxRecDepth 100000 in
set_option maxHeartbeats 4000000 in
theorem keepSpares_any (h : FMem o q w b m sv rv) :
    Calls Try.prog 64 #[.pointer (some ⟨b, 0, none⟩)] w fun r w' => r = .returned (.tuple #[]) ∧ FMem o q w' b m.spares sv rv ∧ Fr q o w o w' := by
  have ku : Hid (∀ w', FMem o q w' b m sv rv → Calls Try.prog 86 #[.pointer (some ⟨b, 0, none⟩)] w' fun r w'' => r = .returned (.int .i64 (m.usedTo 6)) ∧ Below w'.heap.size w' w'') := fun w' h' => used_any h'
  have ks : Hid (∀ w', FMem o q w' b m sv rv → Calls Try.prog 87 #[.pointer (some ⟨b, 0, none⟩)] w' fun r w'' => r = .returned (.int .i64 (m.freshTo 6)) ∧ Below w'.heap.size w' w'') := fun w' h' => spare_any h'
  have kc : Hid (∀ w', FMem o q w' b m sv rv → Calls Try.prog 89 #[.pointer (some ⟨b, 0, none⟩), .int .i64 2] w' fun r w'' => r = .returned (.int .i64 (m.inTo 2 6)) ∧ Below w'.heap.size w' w'') := fun w' h' => inState_any h' 2
  have HS : Hid (m.spares = cond (decide (m.freshTo 6 < m.set.mn) && decide (m.usedTo 6 < m.set.ch)) m.startOne (cond (decide (m.set.mx < m.inTo 2 6)) m.killLast m)) := rfl
  generalize m.usedTo 6 = u at *
  generalize m.freshTo 6 = f at *
  generalize m.inTo 2 6 = i at *
  generalize m.spares = R at *
  by_cases h1 : f < m.set.mn
  · have g1 : decide (f < m.set.mn) = true := by simpa using h1
    by_cases h2 : u < m.set.ch
    · have g2 : decide (u < m.set.ch) = true := by simpa using h2
      have HS2 : Hid (R = m.startOne) := by show _ = _; rw [HS.out, g1, g2]; rfl
      clear HS
      go_enter Try.func64, Try.ntmps64
      go_wp2_with fail
      refine (ku.out _ h).mono ?_
      rintro e w1 ⟨rfl, hb1⟩
      have hm1 := h.below hb1
      go_wp2_with fail
      refine (ks.out _ hm1).mono ?_
      rintro e w2 ⟨rfl, hb2⟩
      have hm2 := hm1.below hb2
      have c0 := hm2.chc
      have c2 := hm2.mnc
      have hmq := hm2
      have frq := (Fr.of_below (q := q) h.clean hb1).below hb2
      go_wp2_with fail
      refine (startOne_any hmq).mono ?_
      rintro e w3 ⟨rfl, hm3, fr3⟩
      go_wp2
      exact bodyPost_ret (v := .tuple #[]) (by simp [results, Try.results64, go_sem]) rfl ⟨rfl, by rw [HS2.out]; exact hm3, frq.trans fr3⟩
    · have g2 : decide (u < m.set.ch) = false := by simpa using h2
      have HS2 : Hid (R = cond (decide (m.set.mx < i)) m.killLast m) := by show _ = _; rw [HS.out, g1, g2]; rfl
      clear HS
      go_enter Try.func64, Try.ntmps64
      go_wp2_with fail
      refine (ku.out _ h).mono ?_
      rintro e w1 ⟨rfl, hb1⟩
      have hm1 := h.below hb1
      go_wp2_with fail
      refine (ks.out _ hm1).mono ?_
      rintro e w2 ⟨rfl, hb2⟩
      have hm2 := hm1.below hb2
      have c0 := hm2.chc
      have c2 := hm2.mnc
      have hmq := hm2
      have frq := (Fr.of_below (q := q) h.clean hb1).below hb2
      go_wp2_with fail
      refine (kc.out _ hmq).mono ?_
      rintro e w3 ⟨rfl, hb3⟩
      have hm3 := hmq.below hb3
      have c3 := hm3.mxc
      by_cases h3 : m.set.mx < i
      · have g3 : decide (m.set.mx < i) = true := by simpa using h3
        rw [g3] at HS2
        go_wp2_with fail
        refine (killLastIdle_any hm3).mono ?_
        rintro e w4 ⟨rfl, hm4, fr4⟩
        go_wp2
        exact bodyPost_end (v := .tuple #[]) (by simp [results, Try.results64, go_sem]) rfl ⟨rfl, by rw [HS2.out]; exact hm4, (frq.below hb3).trans fr4⟩
      · have g3 : decide (m.set.mx < i) = false := by simpa using h3
        rw [g3] at HS2
        go_wp2
        exact bodyPost_end (v := .tuple #[]) (by simp [results, Try.results64, go_sem]) rfl ⟨rfl, by rw [HS2.out]; exact hm3, frq.below hb3⟩
  · have g1 : decide (f < m.set.mn) = false := by simpa using h1
    have HS2 : Hid (R = cond (decide (m.set.mx < i)) m.killLast m) := by show _ = _; rw [HS.out, g1]; rfl
    clear HS
    go_enter Try.func64, Try.ntmps64
    go_wp2_with fail
    refine (ku.out _ h).mono ?_
    rintro e w1 ⟨rfl, hb1⟩
    have hm1 := h.below hb1
    go_wp2_with fail
    refine (ks.out _ hm1).mono ?_
    rintro e w2 ⟨rfl, hb2⟩
    have hm2 := hm1.below hb2
    have c0 := hm2.chc
    have c2 := hm2.mnc
    have hmq := hm2
    have frq := (Fr.of_below (q := q) h.clean hb1).below hb2
    go_wp2_with fail
    refine (kc.out _ hmq).mono ?_
    rintro e w3 ⟨rfl, hb3⟩
    have hm3 := hmq.below hb3
    have c3 := hm3.mxc
    by_cases h3 : m.set.mx < i
    · have g3 : decide (m.set.mx < i) = true := by simpa using h3
      rw [g3] at HS2
      go_wp2_with fail
      refine (killLastIdle_any hm3).mono ?_
      rintro e w4 ⟨rfl, hm4, fr4⟩
      go_wp2
      exact bodyPost_end (v := .tuple #[]) (by simp [results, Try.results64, go_sem]) rfl ⟨rfl, by rw [HS2.out]; exact hm4, (frq.below hb3).trans fr4⟩
    · have g3 : decide (m.set.mx < i) = false := by simpa using h3
      rw [g3] at HS2
      go_wp2
      exact bodyPost_end (v := .tuple #[]) (by simp [results, Try.results64, go_sem]) rfl ⟨rfl, by rw [HS2.out]; exact hm3, frq.below hb3⟩
end
end Go.Proofs.Ytlafkpaljibonaa

namespace Go.Proofs.Ytlafkpaljibonaa
open Go.RowKit

def PM.ticked (m : PM) : PM := { m with time := wrap64 (m.time + 1) }
def PM.late (m : PM) : PM := cond (decide (0 < m.set.tmo)) (m.lateTo 6) m
def PM.tickS (m : PM) : PM := cond m.set.dyn m.ticked.late.spares m.ticked.late
def PM.tick (m : PM) : PM := m.tickS.settle

def PM.oldAt (m : PM) (k : Nat) : PM := { m with slot := upd m.slot k { m.slot k with old := true } }
def PM.agesAt (m : PM) (k : Nat) : PM := cond ((m.slot k).st == 2) (m.kill k) (cond ((m.slot k).st == 1 || (m.slot k).st == 3) (m.oldAt k) m)
def PM.agesTo (m : PM) : Nat → PM
  | 0 => m
  | k + 1 => (m.agesTo k).agesAt k
def PM.withSet (m : PM) (c : Cfg) : PM := { m with set := c }
def PM.reload (m : PM) (c : Cfg) : PM := ((m.withSet c).agesTo 6).settle
def PM.afterReload (m : PM) (c : Cfg) : PM := cond c.ok (m.reload c) m
def reloadC (c : Cfg) : Int := cond c.ok 0 1

section
variable {o : Nat → Tag} {q : Nat} {w : World} {b : Nat} {m : PM} {sv : Nat → Value} {rv : Value}

theorem fcells_time (m : PM) (sv : Nat → Value) (rv : Value) (x : Int) : (fcells m sv rv).set 7 (.int .i64 x) = fcells { m with time := x } sv rv := rfl
theorem FMem.setTime (h : FMem o q w b m sv rv) (x : Int) :
    FMem o q (w.setCell ⟨b, 7, none⟩ (.int .i64 x)) b { m with time := x } sv rv ∧ Fr q o w o (w.setCell ⟨b, 7, none⟩ (.int .i64 x)) := by
  have hoth : ∀ g, g ≠ b → (w.setCell ⟨b, 7, none⟩ (.int .i64 x)).heap[g]? = w.heap[g]? := fun g hg => Below.heap_setCell _ _ _ g hg
  have hbk := h.blk.set 7 (.int .i64 x)
  rw [fcells_time m sv rv x] at hbk
  have hm := h.put hbk (by simp [World.setCell]) hoth (fun _ _ => rfl) rfl
  exact ⟨hm, h.fr_put hm (by simp [World.setCell]) (by simp [World.setCell]) (by simp [World.setCell]) (by simp [World.setCell]) hoth⟩

set_option maxRecDepth 100000 in
set_option maxHeartbeats 4000000 in
theorem tick_any (h : FMem o q w b m sv rv) (hq : q ≠ 0) {R S : Nat} (hsm : m.small R S) (hR : R ≤ 1000000000000) (hS : S ≤ 100000000000) (hf : ∀ k, k < 6 → m.fair k) :
    Calls Try.prog 33 #[.pointer (some ⟨b, 0, none⟩)] w fun r w' => r = .returned (.tuple #[]) ∧ ∃ o' sv' rv', FMem o' q w' b m.tick sv' rv' ∧ Fr q o w o' w' := by
  have ct := h.timec
  have fz := h.frozen
  obtain ⟨hmT, frT⟩ := h.setTime (wrap64 (m.time + 1))
  have hwr : IntKind.i64.wrap (m.time + 1) = wrap64 (m.time + 1) := IntWalk.i64_left _
  have kk : Hid (∀ w', FMem o q w' b m.ticked sv rv → Calls Try.prog 63 #[.pointer (some ⟨b, 0, none⟩)] w' fun r w'' => r = .returned (.tuple #[]) ∧ ∃ o' sv' rv', FMem o' q w'' b (m.ticked.lateTo 6) sv' rv' ∧ Fr q o w' o' w'') := fun w' h' => killLate_any h' hq (m := m.ticked) (hsm.of_eq rfl rfl) hR hS hf
  have hkept := PM.lateTo_kept (m := m.ticked) (hsm.of_eq rfl rfl) hf 6
  have hT : Hid (m.tick = m.tickS.settle) := rfl
  have hTS : Hid (m.tickS = cond m.set.dyn m.ticked.late.spares m.ticked.late) := rfl
  have hL : Hid (m.ticked.late = cond (decide (0 < m.set.tmo)) (m.ticked.lateTo 6) m.ticked) := rfl
  have hset : m.ticked.set = m.set := rfl
  have hmT' : FMem o q (w.setCell ⟨b, 7, none⟩ (.int .i64 (wrap64 (m.time + 1)))) b m.ticked sv rv := hmT
  clear hmT
  -- behind the late ones
  have rest : Hid (∀ o1 sv1 rv1 w1, FMem o1 q w1 b m.ticked.late sv1 rv1 → m.ticked.late.set = m.set) := fun o1 sv1 rv1 w1 _ => by
    rw [hL.out]
    cases decide (0 < m.set.tmo)
    · rfl
    · exact hkept.2.2.1
  by_cases h0 : 0 < m.set.tmo
  · have g0 : decide (0 < m.set.tmo) = true := by simpa using h0
    have g0' : decide (m.set.tmo > 0) = true := g0
    rw [g0, cond_true] at hL
    rw [hL.out] at rest hTS
    have c5 := hmT'.tmoc
    rw [hset] at c5
    go_enter Try.func33, Try.ntmps33
    go_wp2_with fail
    refine (kk.out _ hmT').mono ?_
    rintro e w1 ⟨rfl, o1, sv1, rv1, hm1, fr1⟩
    have hs1 := rest.out _ _ _ _ hm1
    have cd := hm1.dync
    rw [hs1] at cd
    clear ct fz c5 kk hkept rest
    generalize m.ticked.lateTo 6 = M at *
    cases hd : m.set.dyn
    · rw [hd] at cd hTS
      rw [hTS.out, cond_false] at hT
      go_wp2_with fail
      refine (settle_any hm1).mono ?_
      rintro e w2 ⟨rfl, hm2, fr2⟩
      go_wp2
      exact bodyPost_end (v := .tuple #[]) (by simp [results, Try.results33, go_sem]) rfl ⟨rfl, o1, sv1, rv1, by rw [hT.out]; exact hm2, (frT.trans fr1).trans fr2⟩
    · rw [hd] at cd hTS
      rw [hTS.out, cond_true] at hT
      go_wp2_with fail
      refine (keepSpares_any hm1).mono ?_
      rintro e w2 ⟨rfl, hm2, fr2⟩
      clear cd
      go_wp2_with fail
      refine (settle_any hm2).mono ?_
      rintro e w3 ⟨rfl, hm3, fr3⟩
      go_wp2
      exact bodyPost_end (v := .tuple #[]) (by simp [results, Try.results33, go_sem]) rfl ⟨rfl, o1, sv1, rv1, by rw [hT.out]; exact hm3, ((frT.trans fr1).trans fr2).trans fr3⟩
  · have g0 : decide (0 < m.set.tmo) = false := by simpa using h0
    have g0' : decide (m.set.tmo > 0) = false := g0
    rw [g0, cond_false] at hL
    rw [hL.out] at rest hTS
    have c5 := hmT'.tmoc
    have cd := hmT'.dync
    rw [hset] at c5 cd
    clear kk hkept rest
    generalize m.ticked = M at *
    cases hd : m.set.dyn
    · rw [hd] at cd hTS
      rw [hTS.out, cond_false] at hT
      go_enter Try.func33, Try.ntmps33
      go_wp2_with fail
      refine (settle_any hmT').mono ?_
      rintro e w2 ⟨rfl, hm2, fr2⟩
      clear ct fz c5 cd
      go_wp2
      exact bodyPost_end (v := .tuple #[]) (by simp [results, Try.results33, go_sem]) rfl ⟨rfl, o, sv, rv, by rw [hT.out]; exact hm2, frT.trans fr2⟩
    · rw [hd] at cd hTS
      rw [hTS.out, cond_true] at hT
      go_enter Try.func33, Try.ntmps33
      go_wp2_with fail
      refine (keepSpares_any hmT').mono ?_
      rintro e w2 ⟨rfl, hm2, fr2⟩
      clear ct fz c5 cd
      go_wp2_with fail
      refine (settle_any hm2).mono ?_
      rintro e w3 ⟨rfl, hm3, fr3⟩
      go_wp2
      exact bodyPost_end (v := .tuple #[]) (by simp [results, Try.results33, go_sem]) rfl ⟨rfl, o, sv, rv, by rw [hT.out]; exact hm3, (frT.trans fr2).trans fr3⟩

theorem fcells_old (m : PM) (sv : Nat → Value) (rv : Value) (k : Nat) (hk : k < 6) : (fcells m sv rv).set (21 + k * 7 + 1) (.bool true) = fcells (m.oldAt k) sv rv := by
  rcases k with _ | _ | _ | _ | _ | _ | k <;> first | rfl | omega

theorem FMem.setOld (h : FMem o q w b m sv rv) {k : Nat} (hk : k < 6) :
    FMem o q (w.setCell ⟨b, 21 + k * 7 + 1, none⟩ (.bool true)) b (m.oldAt k) sv rv ∧ Fr q o w o (w.setCell ⟨b, 21 + k * 7 + 1, none⟩ (.bool true)) := by
  have hoth : ∀ g, g ≠ b → (w.setCell ⟨b, 21 + k * 7 + 1, none⟩ (.bool true)).heap[g]? = w.heap[g]? := fun g hg => Below.heap_setCell _ _ _ g hg
  have hbk := h.blk.set (21 + k * 7 + 1) (.bool true)
  rw [fcells_old m sv rv k hk] at hbk
  have hm := h.put hbk (by simp [World.setCell]) hoth (fun _ _ => rfl) rfl
  exact ⟨hm, h.fr_put hm (by simp [World.setCell]) (by simp [World.setCell]) (by simp [World.setCell]) (by simp [World.setCell]) hoth⟩

set_option maxRecDepth 100000 in
set_option maxHeartbeats 4000000 in
theorem retireAll_any (h : FMem o q w b m sv rv) :
    Calls Try.prog 80 #[.pointer (some ⟨b, 0, none⟩)] w fun r w' => r = .returned (.tuple #[]) ∧ FMem o q w' b (m.agesTo 6) sv rv ∧ Fr q o w o w' := by
  go_enter Try.func80, Try.ntmps80
  go_wp2
  go_loopw [3] (fun i w' => ∃ k : Nat, k ≤ 6 ∧ i = .int .i64 k ∧ FMem o q w' b (m.agesTo k) sv rv ∧ Fr q o w o w') (fun i _ => 6 - (intOf i).toNat)
  case atStart => exact ⟨0, by omega, rfl, h, Fr.refl h.clean⟩
  case round =>
    obtain ⟨k, hk, rfl, hm, hfr⟩ := hrel
    clear h
    by_cases hlt : k < 6
    · have hkI : (k : Int) < 6 := by omega
      have HS : Hid (m.agesTo (k + 1) = (m.agesTo k).agesAt k) := rfl
      generalize m.agesTo k = M at *
      unfold PM.agesAt at HS
      obtain ⟨c0, c1, -⟩ := hm.slotc hlt
      have fz := hm.frozen
      by_cases h2 : (M.slot k).st = 2
      · have HS2 : Hid (m.agesTo (k + 1) = M.kill k) := by show _ = _; rw [HS.out, h2]; rfl
        rw [h2] at c0
        clear HS h2
        go_wp2_with fail
        refine (kill_any hm k hlt).mono ?_
        rintro e w3 ⟨rfl, hm3, fr3⟩
        clear c0 c1 fz
        go_wp2
        exact ⟨⟨k + 1, by omega, by go_num, by rw [HS2.out]; exact hm3, hfr.trans fr3⟩, by simp [intOf]; omega⟩
      · have h2' : ((M.slot k).st == 2) = false := by simpa using h2
        by_cases h1 : (M.slot k).st = 1
        · have HS2 : Hid (m.agesTo (k + 1) = M.oldAt k) := by show _ = _; rw [HS.out, h1]; rfl
          rw [h1] at c0
          obtain ⟨hm3, fr3⟩ := hm.setOld hlt
          clear HS h1 h2 h2'
          go_wp2
          exact ⟨⟨k + 1, by omega, by go_num, by rw [HS2.out]; exact hm3, hfr.trans fr3⟩, by simp [intOf]; omega⟩
        · have h1' : ((M.slot k).st == 1) = false := by simpa using h1
          by_cases h3 : (M.slot k).st = 3
          · have HS2 : Hid (m.agesTo (k + 1) = M.oldAt k) := by show _ = _; rw [HS.out, h3]; rfl
            rw [h3] at c0
            obtain ⟨hm3, fr3⟩ := hm.setOld hlt
            clear HS h1 h2 h2' h1' h3
            go_wp2
            exact ⟨⟨k + 1, by omega, by go_num, by rw [HS2.out]; exact hm3, hfr.trans fr3⟩, by simp [intOf]; omega⟩
          · have h3' : ((M.slot k).st == 3) = false := by simpa using h3
            have HS2 : Hid (m.agesTo (k + 1) = M) := by show _ = _; rw [HS.out, h2', h1', h3']; rfl
            clear HS
            go_wp2
            exact ⟨⟨k + 1, by omega, by go_num, by rw [HS2.out]; exact hm, hfr⟩, by simp [intOf]; omega⟩
    · have : k = 6 := by omega
      subst this
      go_wp2
      exact bodyPost_end (v := .tuple #[]) (by simp [results, Try.results80, go_sem]) rfl ⟨rfl, hm, hfr⟩

theorem fcells_set (m : PM) (sv : Nat → Value) (rv : Value) (c : Cfg) :
    (((((((fcells m sv rv).set 0 (.int .i64 c.ch)).set 1 (.bool c.dyn)).set 2 (.int .i64 c.mn)).set 3 (.int .i64 c.mx)).set 4 (.int .i64 c.mr)).set 5 (.int .i64 c.tmo)).set 6 (.int .i64 c.bl) = fcells (m.withSet c) sv rv := rfl

theorem FMem.setCfg (h : FMem o q w b m sv rv) (c : Cfg) (h6 : c.ch ≤ 6) :
    let w' := ((((((w.setCell ⟨b, 0, none⟩ (.int .i64 c.ch)).setCell ⟨b, 1, none⟩ (.bool c.dyn)).setCell ⟨b, 2, none⟩ (.int .i64 c.mn)).setCell ⟨b, 3, none⟩ (.int .i64 c.mx)).setCell ⟨b, 4, none⟩ (.int .i64 c.mr)).setCell ⟨b, 5, none⟩ (.int .i64 c.tmo)).setCell ⟨b, 6, none⟩ (.int .i64 c.bl)
    FMem o q w' b (m.withSet c) sv rv ∧ Fr q o w o w' := by
  intro w'
  have hoth : ∀ g, g ≠ b → w'.heap[g]? = w.heap[g]? := by
    intro g hg
    simp only [w']
    repeat rw [Below.heap_setCell _ _ _ g (by simpa using hg)]
  have hm : FMem o q w' b (m.withSet c) sv rv := by
    refine h.put ?_ (by simp [w', World.setCell]) hoth (fun _ _ => rfl) rfl h6
    rw [← fcells_set m sv rv c]
    exact ((((((h.blk.set _ _).set _ _).set _ _).set _ _).set _ _).set _ _).set _ _
  exact ⟨hm, h.fr_put hm (by simp [w', World.setCell]) (by simp [w', World.setCell]) (by simp [w', World.setCell]) (by simp [w', World.setCell]) hoth⟩

set_option maxRecDepth 100000 in
set_option maxHeartbeats 4000000 in
theorem reload_any (h : FMem o q w b m sv rv) (c : Cfg) :
    Calls Try.prog 55 #[.pointer (some ⟨b, 0, none⟩), c.val] w fun r w' => r = .returned (.int .i64 (reloadC c)) ∧ FMem o q w' b (m.afterReload c) sv rv ∧ Fr q o w o w' := by
  unfold PM.afterReload reloadC
  have kr : Hid (∀ w, Calls Try.prog 73 #[c.val] w fun r w' => r = .returned (.bool c.ok) ∧ Below w.heap.size w w') := fun w => mayBe_any c w
  have hb0 : Below w.heap.size w (w.alloc (.cells #[.int .i64 c.ch, .bool c.dyn, .int .i64 c.mn, .int .i64 c.mx, .int .i64 c.mr, .int .i64 c.tmo, .int .i64 c.bl] 44)) := (Below.refl _ _).alloc (Nat.le_refl _) _
  have x0 := Blk.made w 44 [.int .i64 c.ch, .bool c.dyn, .int .i64 c.mn, .int .i64 c.mx, .int .i64 c.mr, .int .i64 c.tmo, .int .i64 c.bl]
  cases hok : c.ok
  · rw [hok] at kr
    simp only [cond_false]
    unfold Cfg.val at *
    clear hok
    go_enter Try.func55, Try.ntmps55
    go_wp2_with fail
    refine (kr.out _).mono ?_
    rintro e w1 ⟨rfl, hb1⟩
    have hm1 := (h.below hb0).below hb1
    go_wp2
    go_ret
    exact ⟨rfl, hm1, (Fr.of_below (q := q) h.clean hb0).below hb1⟩
  · rw [hok] at kr
    have h6 : c.ch ≤ 6 := by simp only [Cfg.ok, Bool.and_eq_true, decide_eq_true_eq] at hok; omega
    simp only [cond_true]
    unfold Cfg.val at *
    unfold PM.reload
    clear hok
    go_enter Try.func55, Try.ntmps55
    go_wp2_with fail
    refine (kr.out _).mono ?_
    rintro e w1 ⟨rfl, hb1⟩
    have x1 := x0.below hb1
    have hm1 := (h.below hb0).below hb1
    have fr1 := (Fr.of_below (q := q) h.clean hb0).below hb1
    have y0 := x1.cell (k := 0) (u := .int .i64 c.ch) rfl
    have y1 := x1.cell (k := 1) (u := .bool c.dyn) rfl
    have y2 := x1.cell (k := 2) (u := .int .i64 c.mn) rfl
    have y3 := x1.cell (k := 3) (u := .int .i64 c.mx) rfl
    have y4 := x1.cell (k := 4) (u := .int .i64 c.mr) rfl
    have y5 := x1.cell (k := 5) (u := .int .i64 c.tmo) rfl
    have y6 := x1.cell (k := 6) (u := .int .i64 c.bl) rfl
    have z0 := hm1.chc
    have z1 := hm1.dync
    have z2 := hm1.mnc
    have z3 := hm1.mxc
    have z4 := hm1.mrc
    have z5 := hm1.tmoc
    have z6 := hm1.blc
    have fz := hm1.frozen
    have hp := hm1.setCfg c h6
    clear h x0 x1 hb0 hb1 kr
    go_wp2_with fail
    have hm2 := hp.1
    have fr2 := fr1.trans hp.2
    clear y0 y1 y2 y3 y4 y5 y6 z0 z1 z2 z3 z4 z5 z6 fz hp hm1 fr1
    refine (retireAll_any hm2).mono ?_
    rintro e w3 ⟨rfl, hm3, fr3⟩
    go_wp2_with fail
    refine (settle_any hm3).mono ?_
    rintro e w4 ⟨rfl, hm4, fr4⟩
    go_wp2
    go_ret
    exact ⟨rfl, hm4, (fr2.trans fr3).trans fr4⟩

end
end Go.Proofs.Ytlafkpaljibonaa

namespace Go.Proofs.Ytlafkpaljibonaa
open Go.RowKit

def i64R (x : Int) : Prop := -9223372036854775808 ≤ x ∧ x ≤ 9223372036854775807
def Cfg.in64 (c : Cfg) : Prop := i64R c.ch ∧ i64R c.mn ∧ i64R c.mx ∧ i64R c.mr ∧ i64R c.tmo ∧ i64R c.bl

/-- Settings such as there may be, out of raw ones. -/
def setC (c : Cfg) : Cfg :=
  ⟨1 + pickI c.ch 6, c.dyn, 1 + pickI c.mn (1 + pickI c.ch 6), 1 + pickI c.mn (1 + pickI c.ch 6) + pickI c.mx (1 + pickI c.ch 6 - (1 + pickI c.mn (1 + pickI c.ch 6)) + 1), pickI c.mr 1001, pickI c.tmo 1001, pickI c.bl 21⟩

theorem setC_ok (c : Cfg) : (setC c).ok = true := by
  have h1 := pickI_bd c.ch 6 (by omega)
  have h2 := pickI_bd c.mn (1 + pickI c.ch 6) (by omega)
  have h3 := pickI_bd c.mx (1 + pickI c.ch 6 - (1 + pickI c.mn (1 + pickI c.ch 6)) + 1) (by omega)
  have h4 := pickI_bd c.mr 1001 (by omega)
  have h5 := pickI_bd c.tmo 1001 (by omega)
  have h6 := pickI_bd c.bl 21 (by omega)
  unfold setC
  generalize pickI c.mx (1 + pickI c.ch 6 - (1 + pickI c.mn (1 + pickI c.ch 6)) + 1) = x at *
  generalize pickI c.mn (1 + pickI c.ch 6) = y at *
  generalize pickI c.ch 6 = z at *
  generalize pickI c.mr 1001 = r at *
  generalize pickI c.tmo 1001 = t at *
  generalize pickI c.bl 21 = l at *
  unfold Cfg.ok
  simp only [Bool.and_eq_true, Bool.or_eq_true, decide_eq_true_eq]
  refine ⟨⟨⟨⟨?_, ?_⟩, ?_, ?_⟩, ⟨?_, ?_⟩, ?_, ?_⟩, .inr ⟨⟨?_, ?_⟩, ?_⟩⟩ <;> omega

def zeroC : List Value := [.int .i64 0, .bool false, .int .i64 0, .int .i64 0, .int .i64 0, .int .i64 0, .int .i64 0]

/-- The raw settings, what is answered, and those that are made. -/
structure Two (w : World) (c : Cfg) (L : List Value) (W : World) : Prop where
  c : Blk W w.heap.size 44 c.cells
  r : Blk W (w.heap.size + 1) 44 zeroC
  x : Blk W (w.heap.size + 1 + 1) 44 L
  bel : Below w.heap.size w W

theorem Two.set {w W : World} {c : Cfg} {L : List Value} (h : Two w c L W) (j : Nat) (v : Value) : Two w c (L.set j v) (W.setCell ⟨w.heap.size + 1 + 1, j, none⟩ v) :=
  ⟨h.c.keep (Below.heap_setCell _ _ _ _ (by simp; omega)), h.r.keep (Below.heap_setCell _ _ _ _ (by simp)), h.x.set j v, h.bel.setCell (by simp; omega) _⟩

theorem Two.drew {w W : World} {c : Cfg} {L : List Value} (h : Two w c L W) : Two w c L W.drew :=
  have hb := (Below.refl W.heap.size W).drew
  ⟨h.c.below hb, h.r.below hb, h.x.below hb, h.bel.trans (hb.mono h.bel.size)⟩

theorem Two.start (w : World) (c : Cfg) : Two w c zeroC (((w.alloc (.cells c.cells.toArray 44)).alloc (.cells zeroC.toArray 44)).alloc (.cells zeroC.toArray 44)) := by
  obtain ⟨a, b, d⟩ := two_blks w c.cells zeroC 44 44
  have e : ((w.alloc (.cells c.cells.toArray 44)).alloc (.cells zeroC.toArray 44)).heap.size = w.heap.size + 1 + 1 := by simp
  have hb := (Below.refl ((w.alloc (.cells c.cells.toArray 44)).alloc (.cells zeroC.toArray 44)).heap.size ((w.alloc (.cells c.cells.toArray 44)).alloc (.cells zeroC.toArray 44))).alloc (Nat.le_refl _) (.cells zeroC.toArray 44)
  have x := Blk.made ((w.alloc (.cells c.cells.toArray 44)).alloc (.cells zeroC.toArray 44)) 44 zeroC
  rw [e] at x
  exact ⟨a.below hb, b.below hb, x, d.trans (hb.mono d.size)⟩

set_option maxRecDepth 100000 in
set_option maxHeartbeats 4000000 in
theorem settings_any (c : Cfg) (h : c.in64) (w : World) :
    Calls Try.prog 21 #[c.val] w fun r w' => r = .returned (setC c).val ∧ Below w.heap.size w w' := by
  obtain ⟨r0, r2, r3, r4, r5, r6⟩ := h
  unfold i64R at *
  have p1 := pickI_bd c.ch 6 (by omega)
  have p2 := pickI_bd c.mn (1 + pickI c.ch 6) (by omega)
  have p3 := pickI_bd c.mx (1 + pickI c.ch 6 - (1 + pickI c.mn (1 + pickI c.ch 6)) + 1) (by omega)
  have q1 : Hid (∀ w', Calls Try.prog 15 #[.int .i64 c.ch, .int .i64 6] w' fun r w'' => r = .returned (.int .i64 (pickI c.ch 6)) ∧ w'' = w') := fun w' => pick_any _ _ w' r0.1 r0.2 (by omega) (by omega)
  have q2 : Hid (∀ w', Calls Try.prog 15 #[.int .i64 c.mn, .int .i64 (1 + pickI c.ch 6)] w' fun r w'' => r = .returned (.int .i64 (pickI c.mn (1 + pickI c.ch 6))) ∧ w'' = w') := fun w' => pick_any _ _ w' r2.1 r2.2 (by omega) (by omega)
  have q3 : Hid (∀ w', Calls Try.prog 15 #[.int .i64 c.mx, .int .i64 (1 + pickI c.ch 6 - (1 + pickI c.mn (1 + pickI c.ch 6)) + 1)] w' fun r w'' => r = .returned (.int .i64 (pickI c.mx (1 + pickI c.ch 6 - (1 + pickI c.mn (1 + pickI c.ch 6)) + 1))) ∧ w'' = w') := fun w' => pick_any _ _ w' r3.1 r3.2 (by omega) (by omega)
  have q4 : Hid (∀ w', Calls Try.prog 15 #[.int .i64 c.mr, .int .i64 1001] w' fun r w'' => r = .returned (.int .i64 (pickI c.mr 1001)) ∧ w'' = w') := fun w' => pick_any _ _ w' r4.1 r4.2 (by omega) (by omega)
  have q5 : Hid (∀ w', Calls Try.prog 15 #[.int .i64 c.tmo, .int .i64 1001] w' fun r w'' => r = .returned (.int .i64 (pickI c.tmo 1001)) ∧ w'' = w') := fun w' => pick_any _ _ w' r5.1 r5.2 (by omega) (by omega)
  have q6 : Hid (∀ w', Calls Try.prog 15 #[.int .i64 c.bl, .int .i64 21] w' fun r w'' => r = .returned (.int .i64 (pickI c.bl 21)) ∧ w'' = w') := fun w' => pick_any _ _ w' r6.1 r6.2 (by omega) (by omega)
  unfold Cfg.val setC
  simp only []
  clear r0 r2 r3 r4 r5 r6
  generalize pickI c.mx (1 + pickI c.ch 6 - (1 + pickI c.mn (1 + pickI c.ch 6)) + 1) = X at *
  generalize pickI c.mn (1 + pickI c.ch 6) = Y at *
  generalize pickI c.ch 6 = Z at *
  generalize pickI c.mr 1001 = R at *
  generalize pickI c.tmo 1001 = T at *
  generalize pickI c.bl 21 = L at *
  go_enter Try.func21, Try.ntmps21
  go_wp2_with fail
  have T0 : Two w c zeroC (((w.alloc (.cells #[.int .i64 c.ch, .bool c.dyn, .int .i64 c.mn, .int .i64 c.mx, .int .i64 c.mr, .int .i64 c.tmo, .int .i64 c.bl] 44)).alloc (.cells #[.int .i64 0, .bool false, .int .i64 0, .int .i64 0, .int .i64 0, .int .i64 0, .int .i64 0] 44)).alloc (.cells #[.int .i64 0, .bool false, .int .i64 0, .int .i64 0, .int .i64 0, .int .i64 0, .int .i64 0] 44)) := Two.start w c
  generalize ((w.alloc (.cells #[.int .i64 c.ch, .bool c.dyn, .int .i64 c.mn, .int .i64 c.mx, .int .i64 c.mr, .int .i64 c.tmo, .int .i64 c.bl] 44)).alloc (.cells #[.int .i64 0, .bool false, .int .i64 0, .int .i64 0, .int .i64 0, .int .i64 0, .int .i64 0] 44)).alloc (.cells #[.int .i64 0, .bool false, .int .i64 0, .int .i64 0, .int .i64 0, .int .i64 0, .int .i64 0] 44) = W0 at *
  unfold zeroC at T0
  refine (q1.out _).mono ?_
  rintro e w1 ⟨rfl, rfl⟩
  have T1 := T0.set 0 (.int .i64 (1 + Z))
  have T2 := T1.set 1 (.bool c.dyn)
  have a0 := T0.x.cell (k := 0) (u := .int .i64 0) rfl
  have f0 := T0.x.frozen
  have a1 := T1.c.cell (k := 1) (u := .bool c.dyn) rfl
  have b1 := T1.x.cell (k := 1) (u := .bool false) rfl
  have f1 := T1.x.frozen
  have a2 := T2.c.cell (k := 2) (u := .int .i64 c.mn) rfl
  have b2 := T2.x.cell (k := 0) (u := .int .i64 (1 + Z)) rfl
  go_wp2_with fail
  refine (q2.out _).mono ?_
  rintro e w2 ⟨rfl, rfl⟩
  clear a0 f0 a1 b1 f1 a2 b2 T0 T1
  have T3 := T2.set 2 (.int .i64 (1 + Y))
  have a2 := T2.x.cell (k := 2) (u := .int .i64 0) rfl
  have f2 := T2.x.frozen
  have a3 := T3.c.cell (k := 3) (u := .int .i64 c.mx) rfl
  have b3 := T3.x.cell (k := 0) (u := .int .i64 (1 + Z)) rfl
  have d3 := T3.x.cell (k := 2) (u := .int .i64 (1 + Y)) rfl
  have g3 := T3.x.cell (k := 3) (u := .int .i64 0) rfl
  have f3 := T3.x.frozen
  go_wp2_with fail
  clear a2 f2 g3 f3 a3 b3 d3 T2
  generalize ((w1.setCell ⟨w.heap.size + 1 + 1, 0, none⟩ (.int .i64 (1 + Z))).setCell ⟨w.heap.size + 1 + 1, 1, none⟩ (.bool c.dyn)).setCell ⟨w.heap.size + 1 + 1, 2, none⟩ (.int .i64 (1 + Y)) = W3 at *
  have a3 := T3.c.cell (k := 3) (u := .int .i64 c.mx) rfl
  have b3 := T3.x.cell (k := 0) (u := .int .i64 (1 + Z)) rfl
  have d3 := T3.x.cell (k := 2) (u := .int .i64 (1 + Y)) rfl
  have f3 := T3.x.frozen
  have g3 := T3.x.cell (k := 3) (u := .int .i64 0) rfl
  have T4 := (T3.set 3 (.int .i64 (1 + Y + X))).drew
  have a4 := T4.c.cell (k := 3) (u := .int .i64 c.mx) rfl
  have b4 := T4.x.cell (k := 0) (u := .int .i64 (1 + Z)) rfl
  have d4 := T4.x.cell (k := 2) (u := .int .i64 (1 + Y)) rfl
  have hw1 : IntKind.i64.wrap (1 + Z - (1 + Y)) = 1 + Z - (1 + Y) := wrap_ok (by omega) (by omega)
  have hw2 : IntKind.i64.wrap (1 + Z - (1 + Y) + 1) = 1 + Z - (1 + Y) + 1 := wrap_ok (by omega) (by omega)
  have hw3 : IntKind.i64.wrap (1 + Y + X) = 1 + Y + X := wrap_ok (by omega) (by omega)
  go_region_held3 (fun w' => w'.cell? ⟨w.heap.size, 3, none⟩ = some (.int .i64 c.mx) ∧ w'.cell? ⟨w.heap.size + 1 + 1, 0, none⟩ = some (.int .i64 (1 + Z)) ∧ w'.cell? ⟨w.heap.size + 1 + 1, 2, none⟩ = some (.int .i64 (1 + Y))) (first | exact ⟨a3, b3, d3⟩ | exact ⟨a4, b4, d4⟩) (first | (go_at_call 15; refine (q3.out _).mono ?_; rintro e w3 ⟨rfl, rfl⟩))
  clear g3 f3 a3 b3 d3 a4 b4 d4 hw1 hw2 hw3 T3
  generalize (W3.setCell ⟨w.heap.size + 1 + 1, 3, none⟩ (.int .i64 (1 + Y + X))).drew = W4 at *
  have a4 := T4.c.cell (k := 4) (u := .int .i64 c.mr) rfl
  go_wp2_with fail
  refine (q4.out _).mono ?_
  rintro e w4 ⟨rfl, rfl⟩
  have T5 := T4.set 4 (.int .i64 R)
  have x4 := T4.x.cell (k := 4) (u := .int .i64 0) rfl
  have f4 := T4.x.frozen
  have a5 := T5.c.cell (k := 5) (u := .int .i64 c.tmo) rfl
  go_wp2_with fail
  refine (q5.out _).mono ?_
  rintro e w5 ⟨rfl, rfl⟩
  have T6 := T5.set 5 (.int .i64 T)
  have x5 := T5.x.cell (k := 5) (u := .int .i64 0) rfl
  have f5 := T5.x.frozen
  have a6 := T6.c.cell (k := 6) (u := .int .i64 c.bl) rfl
  go_wp2_with fail
  refine (q6.out _).mono ?_
  rintro e w6 ⟨rfl, rfl⟩
  have T7 := T6.set 6 (.int .i64 L)
  have x6 := T6.x.cell (k := 6) (u := .int .i64 0) rfl
  have f6 := T6.x.frozen
  have y0 := T7.x.cell (k := 0) (u := .int .i64 (1 + Z)) rfl
  have y1 := T7.x.cell (k := 1) (u := .bool c.dyn) rfl
  have y2 := T7.x.cell (k := 2) (u := .int .i64 (1 + Y)) rfl
  have y3 := T7.x.cell (k := 3) (u := .int .i64 (1 + Y + X)) rfl
  have y4 := T7.x.cell (k := 4) (u := .int .i64 R) rfl
  have y5 := T7.x.cell (k := 5) (u := .int .i64 T) rfl
  have y6 := T7.x.cell (k := 6) (u := .int .i64 L) rfl
  have z0 := T7.r.cell (k := 0) (u := .int .i64 0) rfl
  have z1 := T7.r.cell (k := 1) (u := .bool false) rfl
  have z2 := T7.r.cell (k := 2) (u := .int .i64 0) rfl
  have z3 := T7.r.cell (k := 3) (u := .int .i64 0) rfl
  have z4 := T7.r.cell (k := 4) (u := .int .i64 0) rfl
  have z5 := T7.r.cell (k := 5) (u := .int .i64 0) rfl
  have z6 := T7.r.cell (k := 6) (u := .int .i64 0) rfl
  have fr := T7.r.frozen
  go_wp2
  have rF := ((((((T7.r.set 0 (.int .i64 (1 + Z))).set 1 (.bool c.dyn)).set 2 (.int .i64 (1 + Y))).set 3 (.int .i64 (1 + Y + X))).set 4 (.int .i64 R)).set 5 (.int .i64 T)).set 6 (.int .i64 L)
  have u0 := rF.cell (k := 0) (u := .int .i64 (1 + Z)) rfl
  have u1 := rF.cell (k := 1) (u := .bool c.dyn) rfl
  have u2 := rF.cell (k := 2) (u := .int .i64 (1 + Y)) rfl
  have u3 := rF.cell (k := 3) (u := .int .i64 (1 + Y + X)) rfl
  have u4 := rF.cell (k := 4) (u := .int .i64 R) rfl
  have u5 := rF.cell (k := 5) (u := .int .i64 T) rfl
  have u6 := rF.cell (k := 6) (u := .int .i64 L) rfl
  exact bodyPost_ret (v := .agg #[.int .i64 (1 + Z), .bool c.dyn, .int .i64 (1 + Y), .int .i64 (1 + Y + X), .int .i64 R, .int .i64 T, .int .i64 L]) (by simp [results, Try.results21, go_sem, u0, u1, u2, u3, u4, u5, u6]) rfl ⟨rfl, (((((((T7.bel.setCell (by simp) _).setCell (by simp) _).setCell (by simp) _).setCell (by simp) _).setCell (by simp) _).setCell (by simp) _).setCell (by simp) _)⟩
end Go.Proofs.Ytlafkpaljibonaa

namespace Go.Proofs.Ytlafkpaljibonaa
open Go.RowKit

/-- A raw step. -/
structure KSt where
  kind : Int
  a : Int
  b : Int
  c : Int
  s : ByteArray
  set : Cfg

def KSt.cells (x : KSt) : List Value := .int .i64 x.kind :: .int .i64 x.a :: .int .i64 x.b :: .int .i64 x.c :: .string x.s :: x.set.cells
def KSt.val (x : KSt) : Value := .agg #[.int .i64 x.kind, .int .i64 x.a, .int .i64 x.b, .int .i64 x.c, .string x.s, .int .i64 x.set.ch, .bool x.set.dyn, .int .i64 x.set.mn, .int .i64 x.set.mx, .int .i64 x.set.mr, .int .i64 x.set.tmo, .int .i64 x.set.bl]
def KSt.in64 (x : KSt) : Prop := i64R x.kind ∧ i64R x.a ∧ i64R x.b ∧ i64R x.c ∧ x.set.in64

def KSt.id (x : KSt) : Int := 1 + pickI x.c 6
def KSt.pad (x : KSt) : Nat := (pickI (x.c.tdiv 6) 8).toNat
def KSt.rk (x : KSt) : Int := if pickI x.b 4 = 0 then 1 else if pickI x.b 4 = 1 then 5 else if pickI x.b 4 = 2 then 5 else 2
def KSt.rc (x : KSt) : ByteArray := if pickI x.b 4 = 0 then ⟨#[1]⟩ else if pickI x.b 4 = 1 then shortB x.s 200 else ⟨#[]⟩
def KSt.recB (x : KSt) : ByteArray := enc x.rk x.id x.rc (padL x.pad)

theorem shortB_le (s : ByteArray) (n : Nat) : (shortB s n).size ≤ n := by
  unfold shortB
  split
  · rw [ByteArray.size_extract]; omega
  · omega

theorem tdiv_in {c : Int} (h : i64R c) : i64R (c.tdiv 6) := by
  unfold i64R at *
  by_cases h0 : 0 ≤ c
  · rw [Int.tdiv_eq_ediv_of_nonneg h0]; omega
  · have : c.tdiv 6 = -((-c).tdiv 6) := by rw [Int.neg_tdiv, Int.neg_neg]
    rw [this, Int.tdiv_eq_ediv_of_nonneg (by omega)]; omega

set_option maxRecDepth 100000 in
set_option maxHeartbeats 4000000 in
theorem record_any (x : KSt) (h : x.in64) (w : World) :
    Calls Try.prog 51 #[x.val] w fun r w' => r = .returned (.string x.recB) ∧ Below w.heap.size w w' := by
  obtain ⟨-, -, hb, hc, -⟩ := h
  have p1 := pickI_bd x.c 6 (by omega)
  have p2 := pickI_bd (x.c.tdiv 6) 8 (by omega)
  have p3 := pickI_bd x.b 4 (by omega)
  have hd := tdiv_in hc
  unfold i64R at *
  have q1 : Hid (∀ w', Calls Try.prog 15 #[.int .i64 x.c, .int .i64 6] w' fun r w'' => r = .returned (.int .i64 (pickI x.c 6)) ∧ w'' = w') := fun w' => pick_any _ _ w' hc.1 hc.2 (by omega) (by omega)
  have q2 : Hid (∀ w', Calls Try.prog 15 #[.int .i64 (wrap64 (x.c.tdiv 6)), .int .i64 8] w' fun r w'' => r = .returned (.int .i64 ((x.pad : Nat) : Int)) ∧ w'' = w') := fun w' => by
    have := pick_any (x.c.tdiv 6) 8 w' hd.1 hd.2 (by omega) (by omega)
    have e : ((x.pad : Nat) : Int) = pickI (x.c.tdiv 6) 8 := by unfold KSt.pad; omega
    have ew : wrap64 (x.c.tdiv 6) = x.c.tdiv 6 := by rw [← IntWalk.i64_left]; exact wrap_ok (by omega) (by omega)
    rw [e, ew]; exact this
  have q3 : Hid (∀ w', Calls Try.prog 15 #[.int .i64 x.b, .int .i64 4] w' fun r w'' => r = .returned (.int .i64 (pickI x.b 4)) ∧ w'' = w') := fun w' => pick_any _ _ w' hb.1 hb.2 (by omega) (by omega)
  have hpad : x.pad ≤ 7 := by unfold KSt.pad; omega
  have q4 : Hid (∀ w', Calls Try.prog 30 #[.string x.s, .int .i64 200] w' fun r w'' => r = .returned (.string (shortB x.s 200)) ∧ w'' = w') := fun w' => short_any x.s 200 w' (by omega)
  have hs2 := shortB_le x.s 200
  unfold KSt.recB KSt.rk KSt.rc KSt.id
  have B : ∀ (k : Int) (c : ByteArray), 1 ≤ k → k ≤ 6 → c.size ≤ 200 → Hid (∀ w', Calls Try.prog 16 #[.int .i64 k, .int .i64 (1 + pickI x.c 6), .string c, .int .i64 (x.pad : Nat)] w' fun r w'' => r = .returned (.string (enc k (1 + pickI x.c 6) c (padL x.pad))) ∧ Below w'.heap.size w' w'') := fun k c h1 h2 h3 w' => bytes_any k _ c x.pad w' ⟨h1, h2⟩ (by omega) (by omega) hpad
  have b1 := B 1 ⟨#[1]⟩ (by omega) (by omega) (by decide)
  have b2 := B 5 (shortB x.s 200) (by omega) (by omega) (by omega)
  have b3 := B 5 ⟨#[]⟩ (by omega) (by omega) (by decide)
  have b4 := B 2 ⟨#[]⟩ (by omega) (by omega) (by decide)
  clear B hs2 hpad hb hc hd p2
  generalize x.pad = P at *
  generalize pickI x.c 6 = Z at *
  generalize shortB x.s 200 = SH at *
  simp only [KSt.val]
  have hbA : Below w.heap.size w (w.alloc (.cells #[.int .i64 x.kind, .int .i64 x.a, .int .i64 x.b, .int .i64 x.c, .string x.s, .int .i64 x.set.ch, .bool x.set.dyn, .int .i64 x.set.mn, .int .i64 x.set.mx, .int .i64 x.set.mr, .int .i64 x.set.tmo, .int .i64 x.set.bl] 51)) := (Below.refl _ _).alloc (Nat.le_refl _) _
  have hk : pickI x.b 4 = 0 ∨ pickI x.b 4 = 1 ∨ pickI x.b 4 = 2 ∨ pickI x.b 4 = 3 := by omega
  generalize pickI x.b 4 = K at *
  clear p3
  rcases hk with rfl | rfl | rfl | rfl
  · simp only [if_true]
    go_enter Try.func51, Try.ntmps51
    go_wp2_with fail
    refine (q1.out _).mono ?_
    rintro e w1 ⟨rfl, rfl⟩
    go_wp2_with fail
    refine (q2.out _).mono ?_
    rintro e w2 ⟨rfl, rfl⟩
    go_wp2_with fail
    refine (q3.out _).mono ?_
    rintro e w3 ⟨rfl, rfl⟩
    go_wp2_with fail
    refine (b1.out _).mono ?_
    rintro e w5 ⟨rfl, hb5⟩
    go_wp2
    go_ret
    exact ⟨rfl, hbA.trans (hb5.mono hbA.size)⟩
  · simp only [show ¬ ((1 : Int) = 0) from by omega, if_false, if_true]
    go_enter Try.func51, Try.ntmps51
    go_wp2_with fail
    refine (q1.out _).mono ?_
    rintro e w1 ⟨rfl, rfl⟩
    go_wp2_with fail
    refine (q2.out _).mono ?_
    rintro e w2 ⟨rfl, rfl⟩
    go_wp2_with fail
    refine (q3.out _).mono ?_
    rintro e w3 ⟨rfl, rfl⟩
    go_wp2_with fail
    refine (q4.out _).mono ?_
    rintro e w4 ⟨rfl, rfl⟩
    go_wp2_with fail
    refine (b2.out _).mono ?_
    rintro e w5 ⟨rfl, hb5⟩
    go_wp2
    go_ret
    exact ⟨rfl, hbA.trans (hb5.mono hbA.size)⟩
  · simp only [show ¬ ((2 : Int) = 0) from by omega, show ¬ ((2 : Int) = 1) from by omega, if_false, if_true]
    go_enter Try.func51, Try.ntmps51
    go_wp2_with fail
    refine (q1.out _).mono ?_
    rintro e w1 ⟨rfl, rfl⟩
    go_wp2_with fail
    refine (q2.out _).mono ?_
    rintro e w2 ⟨rfl, rfl⟩
    go_wp2_with fail
    refine (q3.out _).mono ?_
    rintro e w3 ⟨rfl, rfl⟩
    go_wp2_with fail
    refine (b3.out _).mono ?_
    rintro e w5 ⟨rfl, hb5⟩
    go_wp2
    go_ret
    exact ⟨rfl, hbA.trans (hb5.mono hbA.size)⟩
  · simp only [show ¬ ((3 : Int) = 0) from by omega, show ¬ ((3 : Int) = 1) from by omega, show ¬ ((3 : Int) = 2) from by omega, if_false]
    go_enter Try.func51, Try.ntmps51
    go_wp2_with fail
    refine (q1.out _).mono ?_
    rintro e w1 ⟨rfl, rfl⟩
    go_wp2_with fail
    refine (q2.out _).mono ?_
    rintro e w2 ⟨rfl, rfl⟩
    go_wp2_with fail
    refine (q3.out _).mono ?_
    rintro e w3 ⟨rfl, rfl⟩
    go_wp2_with fail
    refine (b4.out _).mono ?_
    rintro e w5 ⟨rfl, hb5⟩
    go_wp2
    go_ret
    exact ⟨rfl, hbA.trans (hb5.mono hbA.size)⟩

end Go.Proofs.Ytlafkpaljibonaa

namespace Go.Proofs.Ytlafkpaljibonaa
open Go.RowKit

theorem drop_same (m : PM) (c i : Int) : (m.drop c i).set = m.set ∧ (m.drop c i).time = m.time ∧ (m.drop c i).con = m.con := by
  unfold PM.drop
  cases m.slotOf c i <;> exact ⟨rfl, rfl, rfl⟩

/-- A connection is open, and holds back, as it did. -/
def ConSame (m m' : PM) : Prop := ∀ j, (m'.con j).op = (m.con j).op ∧ (m'.con j).rest = (m.con j).rest

theorem ConSame.refl (m : PM) : ConSame m m := fun _ => ⟨rfl, rfl⟩
theorem ConSame.trans {a b c : PM} (h : ConSame a b) (k : ConSame b c) : ConSame a c := fun j => ⟨(k j).1.trans (h j).1, (k j).2.trans (h j).2⟩
theorem ConSame.of_eq {m m' : PM} (h : m'.con = m.con) : ConSame m m' := fun j => by rw [h]; exact ⟨rfl, rfl⟩

theorem ConSame.sendB (m : PM) (k : Nat) (s : ByteArray) : ConSame m (m.sendB k s) := by
  intro j
  simp only [PM.sendB, upd]
  split
  · rename_i e; subst e; exact ⟨rfl, rfl⟩
  · exact ⟨rfl, rfl⟩

theorem ConSame.endKey (m : PM) (k : Nat) (i st : Int) : ConSame m (m.endKey k i st) :=
  (ConSame.sendB m k _).trans (ConSame.of_eq (drop_same _ _ _).2.2)

theorem ConSame.take (m : PM) (k : Nat) (r : Rec) : ConSame m (m.take k r) := by
  unfold PM.take
  split
  · unfold PM.begin_
    cases (r.2.2.toList == [1])
    · exact ConSame.endKey m k _ _
    · cases decide ((m.keysOf k).length ≥ 4)
      · exact ConSame.refl _
      · exact ConSame.endKey m k _ _
  split
  · unfold PM.in_
    cases m.find k r.2.1 with
    | none => exact ConSame.refl _
    | some a =>
      simp only []
      unfold PM.inAt PM.enqueue
      cases ((m.req.getD a noReq).stage == 0)
      · exact ConSame.refl _
      · cases (r.2.2.toList == [])
        · cases decide (500 < ((m.req.getD a noReq).body ++ r.2.2).size)
          · exact ConSame.refl _
          · exact ConSame.endKey m k _ _
        · cases m.room
          · exact ConSame.endKey m k _ _
          · exact ConSame.refl _
  split
  · unfold PM.abort
    cases m.find k r.2.1 with
    | none => exact ConSame.refl _
    | some a =>
      simp only []
      refine ConSame.trans ?_ (ConSame.endKey _ k _ _)
      cases m.slotOf k r.2.1 <;> exact ConSame.refl _
  · exact ConSame.refl _

theorem startTo_con (m : PM) (u : Int) : ∀ k, (startTo m u k).1.con = m.con
  | 0 => rfl
  | k + 1 => by
    have ih := startTo_con m u k
    simp only [startTo]
    cases (decide ((startTo m u k).2 < m.set.ch) && ((startTo m u k).1.slot k).st == 0) <;> exact ih

theorem leaseTo_con (m : PM) : ∀ k, (m.leaseTo k).con = m.con
  | 0 => rfl
  | k + 1 => by
    have ih := leaseTo_con m k
    show ((m.leaseTo k).leaseAt k).con = _
    unfold PM.leaseAt
    cases (m.leaseTo k).fw with
    | none => exact ih
    | some a =>
      simp only []
      cases (((m.leaseTo k).slot k).st == 2) <;> exact ih

theorem ConSame.settle (m : PM) : ConSame m m.settle := by
  apply ConSame.of_eq
  unfold PM.settle PM.leaseWaiting
  rw [leaseTo_con]
  cases m.set.dyn
  · exact startTo_con m _ 6
  · rfl

theorem dropAll_con : ∀ (l : List (Int × Int)) (m : PM), (m.dropAll l).con = m.con
  | [], _ => rfl
  | p :: l, m => by
    show ((m.drop p.1 p.2).dropAll l).con = _
    rw [dropAll_con l, (drop_same m p.1 p.2).2.2]

theorem close_con (m : PM) (k j : Nat) : ((m.close k).con j) = if j = k then { m.con k with op := false, rest := ⟨#[]⟩ } else m.con j := by
  unfold PM.close
  rw [dropAll_con]
  simp only [PM.shut, upd]

theorem ConSame.outN (c : Nat) (i : Int) : ∀ (f : Nat) (m : PM) (t : ByteArray), ConSame m (PM.outN c i f m t)
  | 0, m, _ => ConSame.refl m
  | f + 1, m, t => by
    unfold PM.outN
    split
    · exact ConSame.refl _
    · exact (ConSame.sendB m _ _).trans (ConSame.outN c i f _ _)
theorem ConSame.endKeyOf (m : PM) (k : Nat) (st : Int) : ConSame m (m.endKeyOf k st) := by
  unfold PM.endKeyOf
  cases ((m.slot k).conn != -1)
  · exact ConSame.refl _
  · exact ConSame.endKey m _ _ _

theorem ConSame.lateTo (m : PM) : ∀ k, ConSame m (m.lateTo k)
  | 0 => ConSame.refl m
  | k + 1 => by
    refine (ConSame.lateTo m k).trans ?_
    have e : m.lateTo (k + 1) = cond ((m.lateTo k).lateAt k) (((m.lateTo k).endKeyOf k 6).kill k) (m.lateTo k) := rfl
    rw [e]
    cases (m.lateTo k).lateAt k
    · exact ConSame.refl _
    · exact (ConSame.endKeyOf (m.lateTo k) k 6).trans (ConSame.refl _)

theorem ConSame.startOne (m : PM) : ConSame m m.startOne := by
  unfold PM.startOne
  cases m.emptyTo 6 <;> exact ConSame.refl _

theorem ConSame.tickS (m : PM) : ConSame m m.tickS := by
  have h1 : ConSame m m.ticked := ConSame.refl _
  have h2 : ConSame m.ticked m.ticked.late := by
    unfold PM.late
    cases decide (0 < m.ticked.set.tmo)
    · exact ConSame.refl _
    · exact ConSame.lateTo _ 6
  unfold PM.tickS
  cases m.set.dyn
  · exact h1.trans h2
  · refine (h1.trans h2).trans ?_
    simp only [cond_true]
    unfold PM.spares
    cases (decide (m.ticked.late.freshTo 6 < m.ticked.late.set.mn) && decide (m.ticked.late.usedTo 6 < m.ticked.late.set.ch))
    · cases decide (m.ticked.late.set.mx < m.ticked.late.inTo 2 6)
      · exact ConSame.refl _
      · simp only [cond_false, cond_true]
        unfold PM.killLast
        cases m.ticked.late.lastTo 6 <;> exact ConSame.refl _
    · exact ConSame.startOne _

theorem ConSame.agesTo (m : PM) : ∀ k, ConSame m (m.agesTo k)
  | 0 => ConSame.refl m
  | k + 1 => by
    refine (ConSame.agesTo m k).trans ?_
    have e : m.agesTo (k + 1) = (m.agesTo k).agesAt k := rfl
    rw [e]
    unfold PM.agesAt
    cases (((m.agesTo k).slot k).st == 2)
    · cases (((m.agesTo k).slot k).st == 1 || ((m.agesTo k).slot k).st == 3) <;> exact ConSame.refl _
    · exact ConSame.refl _


end Go.Proofs.Ytlafkpaljibonaa
