import Derived.Test.YtlafkpaljibonaaGreatJ13
import Derived.Test.YtlafkpaljibonaaGreatJ18
import Derived.Test.YtlafkpaljibonaaGreatJ19
namespace Go.Proofs.YtlafkpaljibonaaGreat
open Go.RowKit

/-- Each key is of a connection that there is. -/
def RM.range (m : RM) : Prop := ∀ i, (m.key i).is ≠ 3 → ∃ c : Nat, c < 4 ∧ (m.key i).conn = c

def RM.lateAt (m : RM) (k : Nat) : Bool := decide (0 < m.set.tmo) && ((m.slot k).st == 3) && decide (m.set.tmo ≤ wrap64 (m.time - (m.slot k).since))
def RM.lateTo (m : RM) : Nat → RM
  | 0 => m
  | k + 1 => cond ((m.lateTo k).lateAt k) (((m.lateTo k).endOf k 6).kill k) (m.lateTo k)
def RM.ticked (m : RM) : RM := { m with time := wrap64 (m.time + 1) }

theorem RM.range_endOf {m : RM} (h : m.range) (k : Nat) (st : Int) : (m.endOf k st).range := by
  unfold RM.endOf
  cases m.live k
  · exact h
  · intro i hi
    have e : (m.endKey (m.slot k).key st).key i = _ := RM.key_set (m.send (m.key (m.slot k).key).conn.toNat (3, (m.key (m.slot k).key).id, strOfNums [st])) (m.slot k).key i { (m.send (m.key (m.slot k).key).conn.toNat (3, (m.key (m.slot k).key).id, strOfNums [st])).key (m.slot k).key with is := 3 }
    simp only [cond_true] at hi ⊢
    rw [e] at hi ⊢
    split
    · rename_i h1
      rw [if_pos h1] at hi
      exact absurd rfl hi
    · rename_i h1
      rw [if_neg h1] at hi
      exact h i hi

theorem RM.range_kill {m : RM} (h : m.range) (k : Nat) : (m.kill k).range := h

theorem RM.range_fair {m : RM} (h : m.range) (k : Nat) : m.fair k := fun hl => h _ (by
  simp only [RM.live, Bool.and_eq_true, beq_iff_eq] at hl
  rw [hl.2]; omega)

section
variable {o : Nat → Tag} {q : Nat} {w : World} {b : Nat} {m : RM} {lv : Nat → Value} {kv qv : Value}

theorem wcells_time (m : RM) (lv : Nat → Value) (kv qv : Value) (x : Int) : (wcells m lv kv qv).set 7 (.int .i64 x) = wcells { m with time := x } lv kv qv := rfl
theorem RMem.setTime (h : RMem o q w b m lv kv qv) (x : Int) :
    RMem o q (w.setCell ⟨b, 7, none⟩ (.int .i64 x)) b { m with time := x } lv kv qv ∧ Fr q o w o (w.setCell ⟨b, 7, none⟩ (.int .i64 x)) := by
  have hoth : ∀ g, g ≠ b → (w.setCell ⟨b, 7, none⟩ (.int .i64 x)).heap[g]? = w.heap[g]? := fun g hg => Below.heap_setCell _ _ _ g hg
  have hbk := h.blk.set 7 (.int .i64 x)
  rw [wcells_time m lv kv qv x] at hbk
  have hm := h.put hbk (by simp [World.setCell]) hoth (fun _ _ => rfl) rfl rfl
  exact ⟨hm, h.fr_put hm (by simp [World.setCell]) (by simp [World.setCell]) (by simp [World.setCell]) (by simp [World.setCell]) hoth⟩

theorem RMem.tmoc (h : RMem o q w b m lv kv qv) : w.cell? ⟨b, 5, none⟩ = some (.int .i64 m.set.tmo) := h.blk.cell rfl
theorem RMem.mnc (h : RMem o q w b m lv kv qv) : w.cell? ⟨b, 2, none⟩ = some (.int .i64 m.set.mn) := h.blk.cell rfl
theorem RMem.mxc (h : RMem o q w b m lv kv qv) : w.cell? ⟨b, 3, none⟩ = some (.int .i64 m.set.mx) := h.blk.cell rfl

/-- How many slots of the first k are Idle, or Starting without being Old; the last that is Idle. -/
def RM.freshTo (m : RM) : Nat → Int
  | 0 => 0
  | k + 1 => m.freshTo k + cond ((m.slot k).st == 2) 1 0 + cond ((m.slot k).st == 1 && !(m.slot k).old) 1 0
def RM.lastTo (m : RM) : Nat → Int
  | 0 => -1
  | k + 1 => cond ((m.slot k).st == 2) k (m.lastTo k)
def RM.scale (m : RM) : RM := cond (decide (m.freshTo 6 < m.set.mn) && decide (6 - m.cnt 0 < m.set.ch)) m.starts (cond (decide (m.set.mx < m.cnt 2)) (m.kill (m.lastTo 6).toNat) m)

theorem RM.freshTo_bd (m : RM) (k : Nat) : 0 ≤ m.freshTo k ∧ m.freshTo k ≤ 2 * k := by
  induction k with
  | zero => simp [RM.freshTo]
  | succ k ih => simp only [RM.freshTo]; cases ((m.slot k).st == 2) <;> cases ((m.slot k).st == 1 && !(m.slot k).old) <;> simp <;> omega

theorem RM.lastTo_bd (m : RM) (k : Nat) : (m.lastTo k = -1 ∧ m.cntTo 2 k = 0) ∨ ∃ j : Nat, j < k ∧ m.lastTo k = j := by
  induction k with
  | zero => exact .inl ⟨rfl, rfl⟩
  | succ k ih =>
    simp only [RM.lastTo, RM.cntTo]
    cases hs : ((m.slot k).st == 2)
    · rcases ih with ⟨h1, h2⟩ | ⟨j, h1, h2⟩
      · exact .inl ⟨h1, by rw [h2]; rfl⟩
      · exact .inr ⟨j, by omega, h2⟩
    · exact .inr ⟨k, by omega, rfl⟩

set_option maxRecDepth 100000 in
set_option maxHeartbeats 4000000 in
theorem rScale_any (h : RMem o q w b m lv kv qv) (hmx : 0 ≤ m.set.mx) :
    Calls Tryz.prog 62 #[.pointer (some ⟨b, 0, none⟩)] w fun r w' => r = .returned (.tuple #[]) ∧ RMem o q w' b m.scale lv kv qv ∧ Fr q o w o w' := by
  have k0 : Hid (∀ w', RMem o q w' b m lv kv qv → Calls Tryz.prog 67 #[.pointer (some ⟨b, 0, none⟩), .int .i64 0] w' fun r w'' => r = .returned (.int .i64 (m.cnt 0)) ∧ w'' = w') := fun w' h' => count_any h' 0
  have k2 : Hid (∀ w', RMem o q w' b m lv kv qv → Calls Tryz.prog 67 #[.pointer (some ⟨b, 0, none⟩), .int .i64 2] w' fun r w'' => r = .returned (.int .i64 (m.cnt 2)) ∧ w'' = w') := fun w' h' => count_any h' 2
  go_enter Tryz.func62, Tryz.ntmps62
  go_wp2
  go_loopw [2, 3, 4] (fun fr la i w' => ∃ k : Nat, k ≤ 6 ∧ fr = .int .i64 (m.freshTo k) ∧ la = .int .i64 (m.lastTo k) ∧ i = .int .i64 k ∧ w' = w) (fun _ _ i _ => 6 - (intOf i).toNat)
  case atStart => exact ⟨0, by omega, rfl, rfl, rfl, rfl⟩
  case round =>
    obtain ⟨k, hk, rfl, rfl, rfl, hw⟩ := hrel
    subst hw
    by_cases hlt : k < 6
    · have hbd := m.freshTo_bd k
      obtain ⟨c0, -, -, c3, -⟩ := h.slotc hlt
      have HF : Hid (m.freshTo (k + 1) = m.freshTo k + cond ((m.slot k).st == 2) 1 0 + cond ((m.slot k).st == 1 && !(m.slot k).old) 1 0) := rfl
      have HL : Hid (m.lastTo (k + 1) = cond ((m.slot k).st == 2) (k : Int) (m.lastTo k)) := rfl
      have hkI : (k : Int) < 6 := by omega
      by_cases h2 : (m.slot k).st = 2
      · rw [h2] at c0 HF HL
        go_wp2
        refine ⟨⟨k + 1, by omega, ?_, ?_, by go_num, by first | rfl | trivial⟩, by simp [intOf]; omega⟩
        · rw [HF.out]; simp
        · rw [HL.out]; simp
      · have h2' : ((m.slot k).st == 2) = false := by simpa using h2
        rw [h2'] at HF HL
        by_cases h1 : (m.slot k).st = 1
        · rw [h1] at c0 HF
          cases ho : (m.slot k).old
          · rw [ho] at c3 HF
            clear ho h1 h2 h2'
            go_wp2
            refine ⟨⟨k + 1, by omega, ?_, ?_, by go_num, by first | rfl | trivial⟩, by simp [intOf]; omega⟩
            · rw [HF.out]; simp
            · rw [HL.out]; simp
          · rw [ho] at c3 HF
            clear ho h1 h2 h2'
            go_wp2
            refine ⟨⟨k + 1, by omega, ?_, ?_, by go_num, by first | rfl | trivial⟩, by simp [intOf]; omega⟩
            · rw [HF.out]; simp
            · rw [HL.out]; simp
        · have h1' : ((m.slot k).st == 1) = false := by simpa using h1
          rw [h1'] at HF
          go_wp2
          refine ⟨⟨k + 1, by omega, ?_, ?_, by go_num, by first | rfl | trivial⟩, by simp [intOf]; omega⟩
          · rw [HF.out]; simp
          · rw [HL.out]; simp
    · have : k = 6 := by omega
      subst this
      clear hlt hk
      have b1 := m.freshTo_bd 6
      have b2 := m.lastTo_bd 6
      have b0 : 0 ≤ m.cnt 0 ∧ m.cnt 0 ≤ 6 := m.cntTo_bd 0 6
      have b3 : 0 ≤ m.cnt 2 ∧ m.cnt 2 ≤ 6 := m.cntTo_bd 2 6
      have cm := h.mnc
      have cx := h.mxc
      have cc := h.chc
      have HS : Hid (m.scale = cond (decide (m.freshTo 6 < m.set.mn) && decide (6 - m.cnt 0 < m.set.ch)) m.starts (cond (decide (m.set.mx < m.cnt 2)) (m.kill (m.lastTo 6).toNat) m)) := rfl
      have hlast : Hid (m.set.mx < m.cnt 2 → ∃ j : Nat, j < 6 ∧ m.lastTo 6 = j) := by
        intro hl
        rcases b2 with ⟨-, e⟩ | e
        · have : m.cnt 2 = 0 := e
          omega
        · exact e
      clear b2
      by_cases hA : m.freshTo 6 < m.set.mn
      · by_cases hB : 6 - m.cnt 0 < m.set.ch
        · have HV : Hid (m.scale = m.starts) := by show _ = _; rw [HS.out, decide_eq_true hA, decide_eq_true hB]; rfl
          clear HS
          go_wp2_with fail
          refine (k0.out _ h).mono ?_
          rintro e w1 ⟨rfl, rfl⟩
          go_wp2_with fail
          refine (k2.out _ h).mono ?_
          rintro e w2 ⟨rfl, rfl⟩
          go_wp2_with fail
          refine (starts_any h).mono ?_
          rintro e w3 ⟨rfl, hm3, fr3⟩
          clear cm cx cc
          go_wp2
          exact bodyPost_end (v := .tuple #[]) (by simp [results, Tryz.results62, go_sem]) rfl ⟨rfl, by rw [HV.out]; exact hm3, fr3⟩
        · have HS2 : Hid (m.scale = cond (decide (m.set.mx < m.cnt 2)) (m.kill (m.lastTo 6).toNat) m) := by show _ = _; rw [HS.out, decide_eq_false hB, Bool.and_false]; rfl
          clear HS
          by_cases hC : m.set.mx < m.cnt 2
          · obtain ⟨j, hj, ej⟩ := hlast.out hC
            have HV : Hid (m.scale = m.kill j) := by show _ = _; rw [HS2.out, decide_eq_true hC, ej]; rfl
            rw [ej]
            clear HS2 hlast ej
            go_wp2_with fail
            refine (k0.out _ h).mono ?_
            rintro e w1 ⟨rfl, rfl⟩
            go_wp2_with fail
            refine (k2.out _ h).mono ?_
            rintro e w2 ⟨rfl, rfl⟩
            go_wp2_with fail
            refine (rKill_any h j hj).mono ?_
            rintro e w3 ⟨rfl, hm3, fr3⟩
            clear cm cx cc
            go_wp2
            exact bodyPost_end (v := .tuple #[]) (by simp [results, Tryz.results62, go_sem]) rfl ⟨rfl, by rw [HV.out]; exact hm3, fr3⟩
          · have HV : Hid (m.scale = m) := by show _ = _; rw [HS2.out, decide_eq_false hC]; rfl
            clear HS2 hlast
            go_wp2_with fail
            refine (k0.out _ h).mono ?_
            rintro e w1 ⟨rfl, rfl⟩
            go_wp2_with fail
            refine (k2.out _ h).mono ?_
            rintro e w2 ⟨rfl, rfl⟩
            go_wp2
            exact bodyPost_end (v := .tuple #[]) (by simp [results, Tryz.results62, go_sem]) rfl ⟨rfl, by rw [HV.out]; exact h, Fr.refl h.clean⟩
      · have HS2 : Hid (m.scale = cond (decide (m.set.mx < m.cnt 2)) (m.kill (m.lastTo 6).toNat) m) := by show _ = _; rw [HS.out, decide_eq_false hA, Bool.false_and]; rfl
        clear HS
        have hskip : True := trivial
        by_cases hC : m.set.mx < m.cnt 2
        · obtain ⟨j, hj, ej⟩ := hlast.out hC
          have HV : Hid (m.scale = m.kill j) := by show _ = _; rw [HS2.out, decide_eq_true hC, ej]; rfl
          rw [ej]
          clear HS2 hlast ej
          go_wp2_with fail
          refine (k0.out _ h).mono ?_
          rintro e w1 ⟨rfl, rfl⟩
          go_wp2_with fail
          refine (k2.out _ h).mono ?_
          rintro e w2 ⟨rfl, rfl⟩
          go_wp2_with fail
          refine (rKill_any h j hj).mono ?_
          rintro e w3 ⟨rfl, hm3, fr3⟩
          clear cm cx cc
          go_wp2
          exact bodyPost_end (v := .tuple #[]) (by simp [results, Tryz.results62, go_sem]) rfl ⟨rfl, by rw [HV.out]; exact hm3, fr3⟩
        · have HV : Hid (m.scale = m) := by show _ = _; rw [HS2.out, decide_eq_false hC]; rfl
          clear HS2 hlast
          go_wp2_with fail
          refine (k0.out _ h).mono ?_
          rintro e w1 ⟨rfl, rfl⟩
          go_wp2_with fail
          refine (k2.out _ h).mono ?_
          rintro e w2 ⟨rfl, rfl⟩
          go_wp2
          exact bodyPost_end (v := .tuple #[]) (by simp [results, Tryz.results62, go_sem]) rfl ⟨rfl, by rw [HV.out]; exact h, Fr.refl h.clean⟩
end
end Go.Proofs.YtlafkpaljibonaaGreat

namespace Go.Proofs.YtlafkpaljibonaaGreat
open Go.RowKit

def RM.tickS (m : RM) : RM := cond m.set.dyn (m.ticked.lateTo 6).scale (m.ticked.lateTo 6)
def RM.tick (m : RM) : RM := m.tickS.settle

/-- What the late keys' ends leave. -/
structure RM.Kept (m m' : RM) (n : Nat) : Prop where
  set : m'.set = m.set
  time : m'.time = m.time
  queue : m'.queue = m.queue
  len : m'.keys.length = m.keys.length
  sent : ∀ c, (m'.line c).sent.length ≤ (m.line c).sent.length + n
  wf : m'.wf
  range : m'.range

theorem RM.lateTo_kept {m : RM} (hwf : m.wf) (hr : m.range) : ∀ k, RM.Kept m (m.lateTo k) k
  | 0 => ⟨rfl, rfl, rfl, rfl, fun _ => Nat.le_refl _, hwf, hr⟩
  | k + 1 => by
    obtain ⟨a1, a2, a3, a4, a5, a6, a7⟩ := RM.lateTo_kept hwf hr k
    unfold RM.lateTo
    cases (m.lateTo k).lateAt k
    · exact ⟨a1, a2, a3, a4, fun c => by have := a5 c; simp only [cond_false]; omega, a6, a7⟩
    · obtain ⟨e1, e2, e3, e4, e5⟩ := (m.lateTo k).endOf_same k 6
      refine ⟨e2.trans a1, e4.trans a2, e3.trans a3, e5.trans a4, fun c => ?_, RM.wf_kill (RM.wf_endOf a6 k 6) k, RM.range_kill (RM.range_endOf a7 k 6) k⟩
      have := a5 c
      have hs : (((m.lateTo k).endOf k 6).line c).sent.length ≤ ((m.lateTo k).line c).sent.length + 1 := by
        unfold RM.endOf
        cases (m.lateTo k).live k
        · exact Nat.le_succ _
        · simp only [cond_true, RM.endKey, RM.over, RM.send, upd]
          split
          · rename_i e; subst e; simp
          · exact Nat.le_succ _
      show (((m.lateTo k).endOf k 6).line c).sent.length ≤ _
      omega

section
variable {o : Nat → Tag} {q : Nat} {w : World} {b : Nat} {m : RM} {lv : Nat → Value} {kv qv : Value}

set_option maxRecDepth 100000 in
set_option maxHeartbeats 8000000 in
theorem rTick_any (h : RMem o q w b m lv kv qv) (hwf : m.wf) (hr : m.range) (hmx : m.set.dyn = true → 0 ≤ m.set.mx) (hq : m.queue.length ≤ 1000000000000) (hs : ∀ c, c < 4 → (m.line c).sent.length ≤ 100000000000) :
    Calls Tryz.prog 26 #[.pointer (some ⟨b, 0, none⟩)] w fun r w' => r = .returned (.tuple #[]) ∧ ∃ o' lv', RMem o' q w' b m.tick lv' kv qv ∧ Fr q o w o' w' := by
  have ct := h.timec
  have fz := h.frozen
  obtain ⟨hmT, frT⟩ := h.setTime (wrap64 (m.time + 1))
  have hmT' : RMem o q (w.setCell ⟨b, 7, none⟩ (.int .i64 (wrap64 (m.time + 1)))) b m.ticked lv kv qv := hmT
  have hwr : IntKind.i64.wrap (m.time + 1) = wrap64 (m.time + 1) := IntWalk.i64_left _
  have hkept := RM.lateTo_kept (m := m.ticked) ⟨hwf.q, hwf.s, hwf.ch⟩ hr
  unfold RM.tick
  have HTS : Hid (m.tickS = cond m.set.dyn (m.ticked.lateTo 6).scale (m.ticked.lateTo 6)) := rfl
  have hs' : ∀ c, c < 4 → (m.ticked.line c).sent.length ≤ 100000000000 := hs
  have hq' : m.ticked.queue.length ≤ 1000000000000 := hq
  have hdyn : m.ticked.set = m.set := rfl
  clear hmT hs hq hwf hr
  go_enter Tryz.func26, Tryz.ntmps26
  go_wp2_with fail
  have frT' : Fr q o w o (w.setCell ⟨b, 7, none⟩ (.int .i64 (wrap64 (m.time + 1)))) := frT
  clear ct fz frT hwr
  generalize w.setCell ⟨b, 7, none⟩ (.int .i64 (wrap64 (m.time + 1))) = w0 at *
  generalize m.ticked = mt at *
  go_loopw [2] (fun i w' => ∃ k : Nat, k ≤ 6 ∧ i = .int .i64 k ∧ ∃ o' lv', RMem o' q w' b (mt.lateTo k) lv' kv qv ∧ Fr q o w o' w') (fun i _ => 6 - (intOf i).toNat)
  case atStart => exact ⟨0, by omega, rfl, o, lv, hmT', frT'⟩
  case round =>
    obtain ⟨k, hk, rfl, o1, lv1, hm, hfr⟩ := hrel
    clear h hmT' frT'
    by_cases hlt : k < 6
    · have hkI : (k : Int) < 6 := by omega
      obtain ⟨e1, e2, e3, e4, e5, e6, e7⟩ := hkept k
      have HS : Hid (mt.lateTo (k + 1) = cond ((mt.lateTo k).lateAt k) (((mt.lateTo k).endOf k 6).kill k) (mt.lateTo k)) := rfl
      have hsn : ∀ c, c < 4 → ((mt.lateTo k).line c).sent.length ≤ 1000000000000 := fun c hc => by have := e5 c; have := hs' c hc; omega
      clear e1 e2 e3 e4 e5 hkept
      generalize mt.lateTo k = M at *
      obtain ⟨c0, -, c2, -, -⟩ := hm.slotc hlt
      have cm := hm.tmoc
      have ct := hm.timec
      unfold RM.lateAt at HS
      have kl : Hid (∀ w', RMem o1 q w' b M lv1 kv qv → Calls Tryz.prog 59 #[.pointer (some ⟨b, 0, none⟩), .int .i64 (k : Nat)] w' fun r w'' => r = .returned (.bool (M.live k)) ∧ Below w'.heap.size w' w'') := fun w' h' => live_any h' e6 k hlt
      by_cases h1 : 0 < M.set.tmo
      · have g1 : decide (0 < M.set.tmo) = true := by simpa using h1
        have g1' : decide (M.set.tmo > 0) = true := g1
        by_cases h3 : (M.slot k).st = 3
        · have hkey := e6.s k hlt h3
          by_cases h5 : M.set.tmo ≤ wrap64 (M.time - (M.slot k).since)
          · have g5 : decide (M.set.tmo ≤ wrap64 (M.time - (M.slot k).since)) = true := by simpa using h5
            have g5' : decide (wrap64 (M.time - (M.slot k).since) ≥ M.set.tmo) = true := g5
            have HS2 : Hid (mt.lateTo (k + 1) = (M.endOf k 6).kill k) := by show _ = _; rw [HS.out, g1, h3, g5]; rfl
            have HEO : Hid (M.endOf k 6 = cond (M.live k) (M.endKey (M.slot k).key 6) M) := rfl
            have hfk := RM.range_fair e7 k
            unfold RM.fair at hfk
            clear HS
            rw [h3] at c0
            generalize M.endOf k 6 = E at *
            cases hlive : M.live k
            · rw [hlive] at kl HEO
              have hE : M = E := HEO.out.symm
              subst hE
              clear HEO hfk hlive h3
              go_wp2_with fail
              go_quiet (fail)
              have hmq := hm.below (w' := wr.drewN nq) (below_dN (Below.refl _ _))
              have frq := hfr.below (w2 := wr.drewN nq) (below_dN (Below.refl _ _))
              clear c0 c2 cm ct
              generalize wr.drewN nq = w4 at *
              go_wp2_with fail
              refine (kl.out _ hmq).mono ?_
              rintro e w5 ⟨rfl, hb5⟩
              go_wp2_with fail
              refine (rKill_any (hmq.below hb5) k hlt).mono ?_
              rintro e w6 ⟨rfl, hm6, fr6⟩
              go_wp2
              exact ⟨⟨k + 1, by omega, by go_num, o1, lv1, by rw [HS2.out]; exact hm6, (frq.below hb5).trans fr6⟩, by simp [intOf]; omega⟩
            · rw [hlive] at kl HEO
              obtain ⟨c, hc, hcn⟩ := hfk hlive
              rw [M.key_eq hkey] at hcn
              have ke : Hid (∀ w', RMem o1 q w' b M lv1 kv qv → Calls Tryz.prog 60 #[.pointer (some ⟨b, 0, none⟩), .int .i64 ((M.slot k).key : Nat), .int .i64 6] w' fun r w'' => r = .returned (.tuple #[]) ∧ ∃ o' lv', RMem o' q w'' b E lv' kv qv ∧ Fr q o1 w' o' w'') := fun w' h' => by have := rEnd_any h' (M.slot k).key hkey c hc hcn 6 (by omega) (by omega) (hsn c hc); rw [HEO.out]; exact this
              clear HEO hfk hlive h3 hcn
              go_wp2_with fail
              go_quiet (fail)
              have hmq := hm.below (w' := wr.drewN nq) (below_dN (Below.refl _ _))
              have frq := hfr.below (w2 := wr.drewN nq) (below_dN (Below.refl _ _))
              clear c0 c2 cm ct
              generalize wr.drewN nq = w4 at *
              go_wp2_with fail
              refine (kl.out _ hmq).mono ?_
              rintro e w5 ⟨rfl, hb5⟩
              have hm5 := hmq.below hb5
              obtain ⟨-, -, -, -, c4⟩ := hm5.slotc hlt
              go_wp2_with fail
              refine (ke.out _ hm5).mono ?_
              rintro e w6 ⟨rfl, o6, lv6, hm6, fr6⟩
              clear c4
              go_wp2_with fail
              refine (rKill_any hm6 k hlt).mono ?_
              rintro e w7 ⟨rfl, hm7, fr7⟩
              go_wp2
              exact ⟨⟨k + 1, by omega, by go_num, o6, lv6, by rw [HS2.out]; exact hm7, ((frq.below hb5).trans fr6).trans fr7⟩, by simp [intOf]; omega⟩
          · have g5 : decide (M.set.tmo ≤ wrap64 (M.time - (M.slot k).since)) = false := by simpa using h5
            have g5' : decide (wrap64 (M.time - (M.slot k).since) ≥ M.set.tmo) = false := g5
            have HS2 : Hid (mt.lateTo (k + 1) = M) := by show _ = _; rw [HS.out, g1, h3, g5]; rfl
            clear HS
            rw [h3] at c0
            clear h3
            go_wp2_with fail
            go_quiet (fail)
            go_wp2
            exact ⟨⟨k + 1, by omega, by go_num, o1, lv1, by rw [HS2.out]; exact hm.below (below_dN (Below.refl _ _)), hfr.below (below_dN (Below.refl _ _))⟩, by simp [intOf]; omega⟩
        · have g3 : ((M.slot k).st == 3) = false := by simpa using h3
          have HS2 : Hid (mt.lateTo (k + 1) = M) := by show _ = _; rw [HS.out, g1, g3]; rfl
          clear HS
          go_wp2_with fail
          go_quiet (fail)
          go_wp2
          exact ⟨⟨k + 1, by omega, by go_num, o1, lv1, by rw [HS2.out]; exact hm.below (below_dN (Below.refl _ _)), hfr.below (below_dN (Below.refl _ _))⟩, by simp [intOf]; omega⟩
      · have g1 : decide (0 < M.set.tmo) = false := by simpa using h1
        have g1' : decide (M.set.tmo > 0) = false := g1
        have HS2 : Hid (mt.lateTo (k + 1) = M) := by show _ = _; rw [HS.out, g1]; rfl
        clear HS
        go_wp2_with fail
        go_quiet (fail)
        go_wp2
        exact ⟨⟨k + 1, by omega, by go_num, o1, lv1, by rw [HS2.out]; exact hm.below (below_dN (Below.refl _ _)), hfr.below (below_dN (Below.refl _ _))⟩, by simp [intOf]; omega⟩
    · have : k = 6 := by omega
      subst this
      obtain ⟨e1, e2, e3, e4, e5, e6, e7⟩ := hkept 6
      clear hkept
      have cd := hm.dync
      rw [e1, hdyn] at cd
      have hwS : m.tickS.wf ∧ m.tickS.queue.length ≤ 1000000000000 := by
        rw [HTS.out]
        cases m.set.dyn
        · exact ⟨e6, by rw [cond_false, e3]; exact hq'⟩
        · simp only [cond_true]
          unfold RM.scale
          cases (decide ((mt.lateTo 6).freshTo 6 < (mt.lateTo 6).set.mn) && decide (6 - (mt.lateTo 6).cnt 0 < (mt.lateTo 6).set.ch))
          · cases decide ((mt.lateTo 6).set.mx < (mt.lateTo 6).cnt 2)
            · exact ⟨e6, by simp only [cond_false]; rw [e3]; exact hq'⟩
            · exact ⟨RM.wf_kill e6 _, by show (mt.lateTo 6).queue.length ≤ _; rw [e3]; exact hq'⟩
          · exact ⟨RM.wf_starts e6, by simp only [cond_true]; rw [(RM.starts_same (mt.lateTo 6)).2.2.1, e3]; exact hq'⟩
      have ks : Hid (∀ w', RMem o1 q w' b m.tickS lv1 kv qv → Calls Tryz.prog 32 #[.pointer (some ⟨b, 0, none⟩)] w' fun r w'' => r = .returned (.tuple #[]) ∧ RMem o1 q w'' b m.tickS.settle lv1 kv qv ∧ Fr q o1 w' o1 w'') := fun w' h' => rSettle_any h' hwS.1 hwS.2
      have hmx6 : Hid (m.set.dyn = true → 0 ≤ (mt.lateTo 6).set.mx) := fun hd => by rw [e1, hdyn]; exact hmx hd
      clear e1 e2 e3 e4 e5 e6 e7 hwS
      generalize mt.lateTo 6 = M at *
      cases hd : m.set.dyn
      · rw [hd] at cd HTS
        have e : M = m.tickS := HTS.out.symm
        rw [e] at hm
        clear hd e HTS
        go_wp2_with fail
        refine (ks.out _ hm).mono ?_
        rintro e w3 ⟨rfl, hm3, fr3⟩
        go_wp2
        exact bodyPost_end (v := .tuple #[]) (by simp [results, Tryz.results26, go_sem]) rfl ⟨rfl, o1, lv1, hm3, hfr.trans fr3⟩
      · rw [hd] at cd HTS
        have hm0 := hmx6.out hd
        have e : M.scale = m.tickS := HTS.out.symm
        have HE : Hid _ := e
        clear hd e HTS
        go_wp2_with fail
        refine (rScale_any hm hm0).mono ?_
        rintro e w2 ⟨rfl, hm2, fr2⟩
        rw [HE.out] at hm2
        clear cd
        go_wp2_with fail
        refine (ks.out _ hm2).mono ?_
        rintro e w3 ⟨rfl, hm3, fr3⟩
        go_wp2
        exact bodyPost_end (v := .tuple #[]) (by simp [results, Tryz.results26, go_sem]) rfl ⟨rfl, o1, lv1, hm3, (hfr.trans fr2).trans fr3⟩
end
end Go.Proofs.YtlafkpaljibonaaGreat

namespace Go.Proofs.YtlafkpaljibonaaGreat
open Go.RowKit

def RM.agesAt (m : RM) (k : Nat) : RM := cond ((m.slot k).st == 2) (m.kill k) (cond ((m.slot k).st == 1 || (m.slot k).st == 3) (m.slotOld k true) m)
def RM.agesTo (m : RM) : Nat → RM
  | 0 => m
  | k + 1 => (m.agesTo k).agesAt k
def RM.withSet (m : RM) (c : Cfg) : RM := { m with set := c }
def RM.reload (m : RM) (c : Cfg) : RM := ((m.withSet c).agesTo 6).settle
def RM.afterReload (m : RM) (c : Cfg) : RM := cond c.ok (m.reload c) m
def reloadE (c : Cfg) : Int := cond c.ok 0 1

theorem RM.agesTo_kept {m : RM} (hwf : m.wf) : ∀ k, (m.agesTo k).wf ∧ (m.agesTo k).queue = m.queue ∧ (m.agesTo k).keys = m.keys ∧ (m.agesTo k).line = m.line ∧ (m.agesTo k).set = m.set ∧ (m.agesTo k).time = m.time
  | 0 => ⟨hwf, rfl, rfl, rfl, rfl, rfl⟩
  | k + 1 => by
    obtain ⟨a1, a2, a3, a4, a5, a6⟩ := RM.agesTo_kept hwf k
    unfold RM.agesTo RM.agesAt
    cases (((m.agesTo k).slot k).st == 2)
    · cases (((m.agesTo k).slot k).st == 1 || ((m.agesTo k).slot k).st == 3)
      · exact ⟨a1, a2, a3, a4, a5, a6⟩
      · refine ⟨⟨a1.q, ?_, a1.ch⟩, a2, a3, a4, a5, a6⟩
        intro j hj e
        by_cases ej : j = k
        · subst ej
          simp only [cond_true, cond_false, RM.slotOld, upd_same] at e ⊢
          exact a1.s j hj e
        · simp only [cond_true, cond_false, RM.slotOld, upd_other _ _ ej] at e ⊢
          exact a1.s j hj e
    · exact ⟨RM.wf_kill a1 k, a2, a3, a4, a5, a6⟩

section
variable {o : Nat → Tag} {q : Nat} {w : World} {b : Nat} {m : RM} {lv : Nat → Value} {kv qv : Value}

theorem wcells_set (m : RM) (lv : Nat → Value) (kv qv : Value) (c : Cfg) :
    (((((((wcells m lv kv qv).set 0 (.int .i64 c.ch)).set 1 (.bool c.dyn)).set 2 (.int .i64 c.mn)).set 3 (.int .i64 c.mx)).set 4 (.int .i64 c.mr)).set 5 (.int .i64 c.tmo)).set 6 (.int .i64 c.bl) = wcells (m.withSet c) lv kv qv := rfl

theorem RMem.setCfg (h : RMem o q w b m lv kv qv) (c : Cfg) :
    let w' := ((((((w.setCell ⟨b, 0, none⟩ (.int .i64 c.ch)).setCell ⟨b, 1, none⟩ (.bool c.dyn)).setCell ⟨b, 2, none⟩ (.int .i64 c.mn)).setCell ⟨b, 3, none⟩ (.int .i64 c.mx)).setCell ⟨b, 4, none⟩ (.int .i64 c.mr)).setCell ⟨b, 5, none⟩ (.int .i64 c.tmo)).setCell ⟨b, 6, none⟩ (.int .i64 c.bl)
    RMem o q w' b (m.withSet c) lv kv qv ∧ Fr q o w o w' := by
  intro w'
  have hoth : ∀ g, g ≠ b → w'.heap[g]? = w.heap[g]? := by
    intro g hg
    simp only [w']
    repeat rw [Below.heap_setCell _ _ _ g (by simpa using hg)]
  have hm : RMem o q w' b (m.withSet c) lv kv qv := by
    refine h.put ?_ (by simp [w', World.setCell]) hoth (fun _ _ => rfl) rfl rfl
    rw [← wcells_set m lv kv qv c]
    exact ((((((h.blk.set _ _).set _ _).set _ _).set _ _).set _ _).set _ _).set _ _
  exact ⟨hm, h.fr_put hm (by simp [w', World.setCell]) (by simp [w', World.setCell]) (by simp [w', World.setCell]) (by simp [w', World.setCell]) hoth⟩

theorem RMem.mrc' (h : RMem o q w b m lv kv qv) : w.cell? ⟨b, 4, none⟩ = some (.int .i64 m.set.mr) := h.blk.cell rfl

set_option maxRecDepth 100000 in
set_option maxHeartbeats 8000000 in
theorem rReload_any (h : RMem o q w b m lv kv qv) (hwf : m.wf) (hq : m.queue.length ≤ 1000000000000) (c : Cfg) :
    Calls Tryz.prog 28 #[.pointer (some ⟨b, 0, none⟩), c.val] w fun r w' => r = .returned (.int .i64 (reloadE c)) ∧ RMem o q w' b (m.afterReload c) lv kv qv ∧ Fr q o w o w' := by
  unfold RM.afterReload reloadE
  have kr : Hid (∀ w, Calls Tryz.prog 14 #[c.val] w fun r w' => r = .returned (.bool c.ok) ∧ Below w.heap.size w w') := fun w => right_any c w
  have hb0 : Below w.heap.size w (w.alloc (.cells #[.int .i64 c.ch, .bool c.dyn, .int .i64 c.mn, .int .i64 c.mx, .int .i64 c.mr, .int .i64 c.tmo, .int .i64 c.bl] 23)) := (Below.refl _ _).alloc (Nat.le_refl _) _
  have x0 := Blk.made w 23 [.int .i64 c.ch, .bool c.dyn, .int .i64 c.mn, .int .i64 c.mx, .int .i64 c.mr, .int .i64 c.tmo, .int .i64 c.bl]
  cases hok : c.ok
  · rw [hok] at kr
    simp only [cond_false]
    unfold Cfg.val at *
    clear hok
    go_enter Tryz.func28, Tryz.ntmps28
    go_wp2_with fail
    refine (kr.out _).mono ?_
    rintro e w1 ⟨rfl, hb1⟩
    have hm1 := (h.below hb0).below hb1
    go_wp2
    go_ret
    exact ⟨rfl, hm1, (Fr.of_below (q := q) h.clean hb0).below hb1⟩
  · rw [hok] at kr
    have hch := cfg_fits hok
    simp only [cond_true]
    unfold Cfg.val at *
    have hkept := RM.agesTo_kept (m := m.withSet c) ⟨hwf.q, hwf.s, hch⟩
    unfold RM.reload
    have hq' : (m.withSet c).queue.length ≤ 1000000000000 := hq
    clear hok hwf hq
    go_enter Tryz.func28, Tryz.ntmps28
    go_wp2_with fail
    refine (kr.out _).mono ?_
    rintro e w1 ⟨rfl, hb1⟩
    have x1 := x0.below hb1
    have hm1 := (h.below hb0).below hb1
    have fr1 := (Fr.of_below (q := q) h.clean hb0).below hb1
    have y0 := x1.cell (k := 0) (u := .int .i64 c.ch) rfl
    have y1 := x1.cell (k := 1) (u := .bool c.dyn) rfl
    have y2 := x1.cell (k := 2) (u := .int .i64 c.mn) rfl
    have y3 := x1.cell (k := 3) (u := .int .i64 c.mx) rfl
    have y4 := x1.cell (k := 4) (u := .int .i64 c.mr) rfl
    have y5 := x1.cell (k := 5) (u := .int .i64 c.tmo) rfl
    have y6 := x1.cell (k := 6) (u := .int .i64 c.bl) rfl
    have z0 := hm1.chc
    have z1 := hm1.dync
    have z2 := hm1.mnc
    have z3 := hm1.mxc
    have z4 := hm1.mrc'
    have z5 := hm1.tmoc
    have z6 := hm1.blc
    have fz := hm1.frozen
    have hp := hm1.setCfg c
    clear h x0 x1 hb0 hb1 kr
    go_wp2
    have hm2 := hp.1
    have fr2 := fr1.trans hp.2
    clear y0 y1 y2 y3 y4 y5 y6 z0 z1 z2 z3 z4 z5 z6 fz hp hm1 fr1
    generalize ((((((w1.setCell ⟨b, 0, none⟩ (.int .i64 c.ch)).setCell ⟨b, 1, none⟩ (.bool c.dyn)).setCell ⟨b, 2, none⟩ (.int .i64 c.mn)).setCell ⟨b, 3, none⟩ (.int .i64 c.mx)).setCell ⟨b, 4, none⟩ (.int .i64 c.mr)).setCell ⟨b, 5, none⟩ (.int .i64 c.tmo)).setCell ⟨b, 6, none⟩ (.int .i64 c.bl) = w2 at *
    obtain ⟨mt, hmt⟩ : ∃ mt, m.withSet c = mt := ⟨_, rfl⟩
    rw [hmt] at hm2 hkept hq'
    have HMT : Hid _ := hmt
    clear hmt
    go_loopw [6] (fun i w' => ∃ k : Nat, k ≤ 6 ∧ i = .int .i64 k ∧ RMem o q w' b (mt.agesTo k) lv kv qv ∧ Fr q o w o w') (fun i _ => 6 - (intOf i).toNat)
    case atStart => exact ⟨0, by omega, rfl, hm2, fr2⟩
    case round =>
      obtain ⟨k, hk, rfl, hm, hfr⟩ := hrel
      clear hm2 fr2
      by_cases hlt : k < 6
      · have hkI : (k : Int) < 6 := by omega
        have HS : Hid (mt.agesTo (k + 1) = (mt.agesTo k).agesAt k) := rfl
        clear hkept
        generalize mt.agesTo k = M at *
        unfold RM.agesAt at HS
        obtain ⟨c0, -, -, c3, -⟩ := hm.slotc hlt
        have fz := hm.frozen
        by_cases h2 : (M.slot k).st = 2
        · have HS2 : Hid (mt.agesTo (k + 1) = M.kill k) := by show _ = _; rw [HS.out, h2]; rfl
          rw [h2] at c0
          clear HS h2
          go_wp2_with fail
          refine (rKill_any hm k hlt).mono ?_
          rintro e w3 ⟨rfl, hm3, fr3⟩
          clear c0 c3 fz
          go_wp2
          exact ⟨⟨k + 1, by omega, by go_num, by rw [HS2.out]; exact hm3, hfr.trans fr3⟩, by simp [intOf]; omega⟩
        · have h2' : ((M.slot k).st == 2) = false := by simpa using h2
          by_cases h1 : (M.slot k).st = 1
          · have HS2 : Hid (mt.agesTo (k + 1) = M.slotOld k true) := by show _ = _; rw [HS.out, h1]; rfl
            rw [h1] at c0
            obtain ⟨hm3, fr3⟩ := hm.slotOld hlt true
            clear HS h1 h2 h2'
            go_wp2
            exact ⟨⟨k + 1, by omega, by go_num, by rw [HS2.out]; exact hm3, hfr.trans fr3⟩, by simp [intOf]; omega⟩
          · have h1' : ((M.slot k).st == 1) = false := by simpa using h1
            by_cases h3 : (M.slot k).st = 3
            · have HS2 : Hid (mt.agesTo (k + 1) = M.slotOld k true) := by show _ = _; rw [HS.out, h3]; rfl
              rw [h3] at c0
              obtain ⟨hm3, fr3⟩ := hm.slotOld hlt true
              clear HS h1 h2 h2' h1' h3
              go_wp2
              exact ⟨⟨k + 1, by omega, by go_num, by rw [HS2.out]; exact hm3, hfr.trans fr3⟩, by simp [intOf]; omega⟩
            · have h3' : ((M.slot k).st == 3) = false := by simpa using h3
              have HS2 : Hid (mt.agesTo (k + 1) = M) := by show _ = _; rw [HS.out, h2', h1', h3']; rfl
              clear HS
              go_wp2
              exact ⟨⟨k + 1, by omega, by go_num, by rw [HS2.out]; exact hm, hfr⟩, by simp [intOf]; omega⟩
      · have : k = 6 := by omega
        subst this
        obtain ⟨e1, e2, -⟩ := hkept 6
        have hq6 : (mt.agesTo 6).queue.length ≤ 1000000000000 := by rw [e2]; exact hq'
        clear hkept e2
        go_wp2_with fail
        refine (rSettle_any hm e1 hq6).mono ?_
        rintro e w3 ⟨rfl, hm3, fr3⟩
        go_wp2
        go_ret
        exact ⟨rfl, by rw [HMT.out]; exact hm3, hfr.trans fr3⟩
end
end Go.Proofs.YtlafkpaljibonaaGreat

namespace Go.Proofs.YtlafkpaljibonaaGreat
open Go.RowKit

theorem RM.lateTo_off {M : RM} (h : ¬ 0 < M.set.tmo) : ∀ k, M.lateTo k = M
  | 0 => rfl
  | k + 1 => by
    have ih := RM.lateTo_off h k
    unfold RM.lateTo
    rw [ih]
    have : M.lateAt k = false := by
      unfold RM.lateAt
      have : decide (0 < M.set.tmo) = false := by simpa using h
      rw [this]; rfl
    rw [this]; rfl

section
variable {m : PM} {M : RM} {B : Nat}

theorem Sim.rmrange (h : Sim m M) : M.range := fun i hi => by
  have hl := RM.on_lt hi
  obtain ⟨c, hc, e⟩ := h.range i hl
  exact ⟨c, hc, by rw [M.key_eq hl]; exact e⟩

theorem Sim.ticked (h : Sim m M) : Sim m.ticked M.ticked :=
  ⟨h.set, by show wrap64 (m.time + 1) = wrap64 (M.time + 1); rw [h.time], h.op, h.sent, h.st, h.old, h.served, h.since, h.conn, h.id, h.job, h.view, h.nodup, h.waits, h.one, h.qnd, h.qis, h.range, ⟨h.wf.q, h.wf.s, h.wf.ch⟩, h.busy, h.idle0⟩

theorem Sim.lateTo (h : Sim m M) (h0 : 0 < M.set.tmo) : ∀ k, k ≤ 6 → Sim (m.lateTo k) (M.lateTo k) ∧ (M.lateTo k).set = M.set
  | 0, _ => ⟨h, rfl⟩
  | k + 1, hk => by
    obtain ⟨ih, e⟩ := Sim.lateTo h h0 k (by omega)
    unfold PM.lateTo RM.lateTo
    have hl : (m.lateTo k).lateAt k = (M.lateTo k).lateAt k := by
      unfold PM.lateAt RM.lateAt
      have : decide (0 < M.set.tmo) = true := by simpa using h0
      rw [ih.st k (by omega), ih.set, ih.time, ih.since k (by omega), e, this]
      simp
    rw [hl]
    cases (M.lateTo k).lateAt k
    · exact ⟨ih, e⟩
    · exact ⟨(ih.endOf (by omega) 6).kill (by omega), ((M.lateTo k).endOf_same k 6).2.1.trans e⟩

theorem Sim.late (h : Sim m M) : Sim m.late (M.lateTo 6) ∧ (M.lateTo 6).set = M.set := by
  unfold PM.late
  rw [h.set]
  by_cases h0 : 0 < M.set.tmo
  · have e : decide (0 < M.set.tmo) = true := by simpa using h0
    rw [e]
    exact Sim.lateTo h h0 6 (Nat.le_refl _)
  · have e : decide (0 < M.set.tmo) = false := by simpa using h0
    rw [e, RM.lateTo_off h0 6]
    exact ⟨h, rfl⟩

theorem Sim.emptyTo (h : Sim m M) : m.emptyTo 6 = M.first 0 := by
  unfold RM.first
  simp only [PM.emptyTo, RM.fst, h.st 0 (by omega), h.st 1 (by omega), h.st 2 (by omega), h.st 3 (by omega), h.st 4 (by omega), h.st 5 (by omega)]
  cases ((M.slot 0).st == 0) <;> cases ((M.slot 1).st == 0) <;> cases ((M.slot 2).st == 0) <;> cases ((M.slot 3).st == 0) <;> cases ((M.slot 4).st == 0) <;> cases ((M.slot 5).st == 0) <;> rfl

theorem Sim.startOne (h : Sim m M) : Sim m.startOne M.starts := by
  have e := h.emptyTo
  unfold PM.startOne RM.starts
  rw [← e]
  cases he : m.emptyTo 6 with
  | none => exact h
  | some a => exact h.anew (s := a) (PM.emptyTo_lt he).1 1 (by omega)

theorem Sim.last (h : Sim m M) : ∀ k, k ≤ 6 → (m.lastTo k = none ∧ M.cntTo 2 k = 0) ∨ ∃ a : Nat, a < k ∧ m.lastTo k = some a ∧ M.lastTo k = a
  | 0, _ => .inl ⟨rfl, rfl⟩
  | k + 1, hk => by
    have ih := Sim.last h k (by omega)
    simp only [PM.lastTo, RM.lastTo, RM.cntTo, h.st k (by omega)]
    cases ((M.slot k).st == 2)
    · rcases ih with ⟨h1, h2⟩ | ⟨a, h1, h2, h3⟩
      · exact .inl ⟨h1, by rw [h2]; rfl⟩
      · exact .inr ⟨a, by omega, h2, h3⟩
    · exact .inr ⟨k, by omega, rfl, rfl⟩

theorem Sim.fresh (h : Sim m M) : ∀ k, k ≤ 6 → m.freshTo k = M.freshTo k
  | 0, _ => rfl
  | k + 1, hk => by
    have ih := Sim.fresh h k (by omega)
    simp only [PM.freshTo, RM.freshTo, ih, h.st k (by omega), h.old k (by omega), freshS]
    by_cases e2 : (M.slot k).st = 2
    · rw [e2]; simp
    · have g2 : ((M.slot k).st == 2) = false := by simpa using e2
      rw [g2]
      cases ((M.slot k).st == 1 && !(M.slot k).old) <;> simp

theorem Sim.inTo (h : Sim m M) (x : Int) : ∀ k, k ≤ 6 → m.inTo x k = M.cntTo x k
  | 0, _ => rfl
  | k + 1, hk => by
    have ih := Sim.inTo h x k (by omega)
    simp only [PM.inTo, RM.cntTo, ih, h.st k (by omega)]
    cases ((M.slot k).st == x) <;> simp

theorem Sim.spares (h : Sim m M) (hmx : 0 ≤ M.set.mx) : Sim m.spares M.scale := by
  unfold PM.spares RM.scale
  have e1 := h.fresh 6 (Nat.le_refl _)
  have e2 : m.usedTo 6 = 6 - M.cnt 0 := h.used 6 (Nat.le_refl _)
  have e3 : m.inTo 2 6 = M.cnt 2 := h.inTo 2 6 (Nat.le_refl _)
  rw [e1, e2, e3, h.set]
  cases (decide (M.freshTo 6 < M.set.mn) && decide (6 - M.cnt 0 < M.set.ch))
  · simp only [cond_false]
    by_cases h3 : M.set.mx < M.cnt 2
    · have g3 : decide (M.set.mx < M.cnt 2) = true := by simpa using h3
      rw [g3]
      simp only [cond_true]
      rcases h.last 6 (Nat.le_refl _) with ⟨-, h4⟩ | ⟨a, h4, h5, h6⟩
      · have : M.cnt 2 = 0 := h4
        omega
      · unfold PM.killLast
        rw [h5, h6, Int.toNat_natCast]
        exact h.kill h4
    · have g3 : decide (M.set.mx < M.cnt 2) = false := by simpa using h3
      rw [g3]; exact h
  · exact h.startOne

theorem Sim.tickS (h : Sim m M) : Sim m.tickS M.tickS := by
  unfold PM.tickS RM.tickS
  obtain ⟨h1, h2⟩ := h.ticked.late
  rw [h.set]
  cases hd : M.set.dyn
  · exact h1
  · exact h1.spares (by rw [h2]; exact h.wf.ch.2 hd)

theorem Sim.tick (h : Sim m M) : Sim m.tick M.tick := h.tickS.settle

theorem RM.slotOld_live (M : RM) (k : Nat) (x : Bool) (s : Nat) : (M.slotOld k x).live s = M.live s := by
  unfold RM.live RM.slotOld
  simp only [upd, RM.key]
  split
  · rename_i e; rw [e]
  · rfl

theorem RM.slotOld_key (M : RM) (k : Nat) (x : Bool) (s : Nat) : ((M.slotOld k x).slot s).key = (M.slot s).key ∧ ((M.slotOld k x).slot s).st = (M.slot s).st ∧ ((M.slotOld k x).slot s).since = (M.slot s).since ∧ ((M.slotOld k x).slot s).served = (M.slot s).served := by
  unfold RM.slotOld
  simp only [upd]
  split
  · rename_i e; rw [e]; exact ⟨rfl, rfl, rfl, rfl⟩
  · exact ⟨rfl, rfl, rfl, rfl⟩

theorem PM.oldAt_slot (m : PM) (k s : Nat) : ((m.oldAt k).slot s).st = (m.slot s).st ∧ ((m.oldAt k).slot s).since = (m.slot s).since ∧ ((m.oldAt k).slot s).served = (m.slot s).served ∧ ((m.oldAt k).slot s).conn = (m.slot s).conn ∧ ((m.oldAt k).slot s).id = (m.slot s).id ∧ ((m.oldAt k).slot s).job = (m.slot s).job := by
  unfold PM.oldAt
  simp only [upd]
  split
  · rename_i e; rw [e]; exact ⟨rfl, rfl, rfl, rfl, rfl, rfl⟩
  · exact ⟨rfl, rfl, rfl, rfl, rfl, rfl⟩

theorem Sim.oldAt (h : Sim m M) (k : Nat) : Sim (m.oldAt k) (M.slotOld k true) := by
  refine ⟨h.set, h.time, h.op, h.sent, ?_, ?_, ?_, ?_, ?_, ?_, ?_, h.view, h.nodup, h.waits, ?_, h.qnd, h.qis, h.range, ⟨h.wf.q, ?_, h.wf.ch⟩, ?_, ?_⟩
  · intro s hs; rw [(m.oldAt_slot k s).1, (M.slotOld_key k true s).2.1]; exact h.st s hs
  · intro s hs
    have := h.old s hs
    simp only [PM.oldAt, RM.slotOld, upd]
    split
    · rfl
    · exact this
  · intro s hs; rw [(m.oldAt_slot k s).2.2.1, (M.slotOld_key k true s).2.2.2]; exact h.served s hs
  · intro s hs; rw [(m.oldAt_slot k s).2.1, (M.slotOld_key k true s).2.2.1]; exact h.since s hs
  · intro s hs
    rw [(m.oldAt_slot k s).2.2.2.1]
    have := h.conn s hs
    unfold RM.connOf at *
    rw [RM.slotOld_live, (M.slotOld_key k true s).1]; exact this
  · intro s hs
    rw [(m.oldAt_slot k s).2.2.2.2.1]
    have := h.id s hs
    unfold RM.idOf at *
    rw [RM.slotOld_live, (M.slotOld_key k true s).1]; exact this
  · intro s hs e
    rw [(M.slotOld_key k true s).2.1] at e
    rw [(m.oldAt_slot k s).2.2.2.2.2, (M.slotOld_key k true s).1]; exact h.job s hs e
  · intro i j hi hj a b e
    rw [RM.slotOld_live] at a b
    rw [(M.slotOld_key k true i).1, (M.slotOld_key k true j).1] at e
    exact h.one i j hi hj a b e
  · intro s hs e
    rw [(M.slotOld_key k true s).2.1] at e
    rw [(M.slotOld_key k true s).1]; exact h.wf.s s hs e
  · intro s hs e
    rw [(M.slotOld_key k true s).2.1] at e
    rw [(M.slotOld_key k true s).1]; exact h.busy s hs e
  · intro s hs e
    rw [(M.slotOld_key k true s).2.1] at e
    rw [(M.slotOld_key k true s).2.2.1]; exact h.idle0 s hs e

theorem Sim.agesTo (h : Sim m M) : ∀ k, k ≤ 6 → Sim (m.agesTo k) (M.agesTo k)
  | 0, _ => h
  | k + 1, hk => by
    have ih := Sim.agesTo h k (by omega)
    unfold PM.agesTo RM.agesTo PM.agesAt RM.agesAt
    rw [ih.st k (by omega)]
    cases (((M.agesTo k).slot k).st == 2)
    · cases (((M.agesTo k).slot k).st == 1 || ((M.agesTo k).slot k).st == 3)
      · exact ih
      · exact ih.oldAt k
    · exact ih.kill (by omega)

theorem Sim.withSet (h : Sim m M) {c : Cfg} (hc : c.fits) : Sim (m.withSet c) (M.withSet c) :=
  ⟨rfl, h.time, h.op, h.sent, h.st, h.old, h.served, h.since, h.conn, h.id, h.job, h.view, h.nodup, h.waits, h.one, h.qnd, h.qis, h.range, ⟨h.wf.q, h.wf.s, hc⟩, h.busy, h.idle0⟩

theorem Sim.reload (h : Sim m M) {c : Cfg} (hc : c.fits) : Sim (m.reload c) (M.reload c) := ((h.withSet hc).agesTo 6 (Nat.le_refl _)).settle

theorem ConSame.lateTo (m : PM) : ∀ k, ConSame m (m.lateTo k)
  | 0 => ConSame.refl m
  | k + 1 => by
    refine (ConSame.lateTo m k).trans ?_
    have e : m.lateTo (k + 1) = cond ((m.lateTo k).lateAt k) (((m.lateTo k).endKeyOf k 6).kill k) (m.lateTo k) := rfl
    rw [e]
    cases (m.lateTo k).lateAt k
    · exact ConSame.refl _
    · exact (ConSame.endKeyOf (m.lateTo k) k 6).trans (ConSame.refl _)

theorem ConSame.startOne (m : PM) : ConSame m m.startOne := by
  unfold PM.startOne
  cases m.emptyTo 6 <;> exact ConSame.refl _

theorem ConSame.tickS (m : PM) : ConSame m m.tickS := by
  have h1 : ConSame m m.ticked := ConSame.refl _
  have h2 : ConSame m.ticked m.ticked.late := by
    unfold PM.late
    cases decide (0 < m.ticked.set.tmo)
    · exact ConSame.refl _
    · exact ConSame.lateTo _ 6
  unfold PM.tickS
  cases m.set.dyn
  · exact h1.trans h2
  · refine (h1.trans h2).trans ?_
    simp only [cond_true]
    unfold PM.spares
    cases (decide (m.ticked.late.freshTo 6 < m.ticked.late.set.mn) && decide (m.ticked.late.usedTo 6 < m.ticked.late.set.ch))
    · cases decide (m.ticked.late.set.mx < m.ticked.late.inTo 2 6)
      · exact ConSame.refl _
      · simp only [cond_false, cond_true]
        unfold PM.killLast
        cases m.ticked.late.lastTo 6 <;> exact ConSame.refl _
    · exact ConSame.startOne _

theorem LineSame.lateTo (M : RM) : ∀ k, LineSame M (M.lateTo k)
  | 0 => LineSame.refl M
  | k + 1 => by
    refine (LineSame.lateTo M k).trans ?_
    have e : M.lateTo (k + 1) = cond ((M.lateTo k).lateAt k) (((M.lateTo k).endOf k 6).kill k) (M.lateTo k) := rfl
    rw [e]
    cases (M.lateTo k).lateAt k
    · exact LineSame.refl _
    · exact (LineSame.endOf (M.lateTo k) k 6).trans (LineSame.refl _)

theorem RM.good.kill {M : RM} {K Q S : Nat} (h : M.good K Q S) (k : Nat) : (M.kill k).good K Q S := h.slots (RM.wf_kill h.wf k) rfl rfl rfl

theorem RM.good.lateTo {M : RM} {K Q S : Nat} (h : M.good K Q S) : ∀ k, (M.lateTo k).good K Q (S + k)
  | 0 => h
  | k + 1 => by
    have ih := RM.good.lateTo h k
    unfold RM.lateTo
    cases (M.lateTo k).lateAt k
    · exact ih.mono (Nat.le_refl _) (Nat.le_refl _) (by omega)
    · exact ((ih.endOf k 6).kill k).mono (Nat.le_refl _) (Nat.le_refl _) (by omega)

theorem RM.scale_same (M : RM) : M.scale.keys = M.keys ∧ M.scale.queue = M.queue ∧ M.scale.line = M.line := by
  unfold RM.scale
  cases (decide (M.freshTo 6 < M.set.mn) && decide (6 - M.cnt 0 < M.set.ch))
  · cases decide (M.set.mx < M.cnt 2) <;> exact ⟨rfl, rfl, rfl⟩
  · simp only [cond_true]
    unfold RM.starts
    cases M.first 0 <;> exact ⟨rfl, rfl, rfl⟩

theorem RM.wf_scale {M : RM} (h : M.wf) : M.scale.wf := by
  unfold RM.scale
  cases (decide (M.freshTo 6 < M.set.mn) && decide (6 - M.cnt 0 < M.set.ch))
  · cases decide (M.set.mx < M.cnt 2)
    · exact h
    · exact RM.wf_kill h _
  · exact RM.wf_starts h

theorem RM.good.tickS {M : RM} {K Q S : Nat} (h : M.good K Q S) : M.tickS.good K Q (S + 6) := by
  have h1 : M.ticked.good K Q S := ⟨⟨h.wf.q, h.wf.s, h.wf.ch⟩, h.fit, h.keys, h.queue, h.sent⟩
  have h2 := h1.lateTo 6
  unfold RM.tickS
  cases M.set.dyn
  · exact h2
  · obtain ⟨a, b, c⟩ := (M.ticked.lateTo 6).scale_same
    exact h2.slots (RM.wf_scale h2.wf) a b c

theorem LineSame.tickS (M : RM) : LineSame M M.tickS := by
  have h1 : LineSame M (M.ticked.lateTo 6) := (LineSame.refl M.ticked).trans (LineSame.lateTo M.ticked 6)
  unfold RM.tickS
  cases M.set.dyn
  · exact h1
  · exact h1.trans (LineSame.of_eq (M.ticked.lateTo 6).scale_same.2.2)

theorem Ok.tick (h : Ok m M B) : Ok m.tick M.tick (B + 6) :=
  h.of (by omega) h.sim.tick ((ConSame.tickS m).trans (ConSame.settle _)) ((LineSame.tickS M).trans (LineSame.settle _)) ((h.good.tickS).mono (by omega) (by omega) (Nat.le_refl _)).settle

theorem ConSame.agesTo (m : PM) : ∀ k, ConSame m (m.agesTo k)
  | 0 => ConSame.refl m
  | k + 1 => by
    refine (ConSame.agesTo m k).trans ?_
    have e : m.agesTo (k + 1) = (m.agesTo k).agesAt k := rfl
    rw [e]
    unfold PM.agesAt
    cases (((m.agesTo k).slot k).st == 2)
    · cases (((m.agesTo k).slot k).st == 1 || ((m.agesTo k).slot k).st == 3) <;> exact ConSame.refl _
    · exact ConSame.refl _

theorem Ok.reload (h : Ok m M B) {c : Cfg} (hc : c.fits) : Ok (m.reload c) (M.reload c) B := by
  have hwf : (M.withSet c).wf := ⟨h.good.wf.q, h.good.wf.s, hc⟩
  obtain ⟨k1, k2, k3, k4, -⟩ := RM.agesTo_kept hwf 6
  have hg : (M.withSet c).good B B B := ⟨hwf, h.good.fit, h.good.keys, h.good.queue, h.good.sent⟩
  refine h.of (Nat.le_refl _) (h.sim.reload hc) ?_ ?_ ?_
  · exact ((ConSame.refl (m.withSet c)).trans (ConSame.agesTo (m.withSet c) 6)).trans (ConSame.settle _)
  · exact ((LineSame.refl (M.withSet c)).trans (LineSame.of_eq k4)).trans (LineSame.settle _)
  · exact (hg.slots k1 k3 k2 k4).settle

theorem Ok.afterReload (h : Ok m M B) (c : Cfg) : Ok (m.afterReload c) (M.afterReload c) B := by
  unfold PM.afterReload RM.afterReload
  cases hc : c.ok
  · exact h
  · exact h.reload (cfg_fits hc)

end
end Go.Proofs.YtlafkpaljibonaaGreat

namespace Go.Proofs.YtlafkpaljibonaaGreat
open Go.RowKit

section
variable {p : Nat} {o o' : Nat → Tag} {w w' : World} {gb fb wb : Nat} {ls ts : List Value} {lv tv : Value} {m : PM} {sv : Nat → Value} {rv : Value} {M : RM} {nv : Nat → Value} {kv qv : Value} {B : Nat}

theorem After.mono {B' : Nat} (h : After p o w gb fb wb ls ts lv tv B w') (hb : B ≤ B') : After p o w gb fb wb ls ts lv tv B' w' := by
  obtain ⟨o', sv', rv', nv', kv', qv', m', M', h1, h2, h3⟩ := h
  exact ⟨o', sv', rv', nv', kv', qv', m', M', h1, h2.mono hb, h3⟩

set_option maxRecDepth 100000 in
set_option maxHeartbeats 4000000 in
theorem step_tick (h : Trio p o w gb fb wb ls ts lv tv m sv rv M nv kv qv) (hok : Ok m M B) (hB : B ≤ 10000000) (x : St) (hs : x.s.size ≤ 10000000) (hx : x.kind = 9) :
    Calls Tryz.prog 12 #[.pointer (some ⟨gb, 0, none⟩), x.val] w fun r w' => r = .returned (.bool true) ∧ After p o w gb fb wb ls ts lv tv (B + x.s.size + 6) w' := by
  obtain ⟨kind, a, s, ⟨ch, dyn, mn, mx, mr, tmo, bl⟩, t⟩ := x
  simp only at hx hs
  subst hx
  simp only [St.val]
  have hsm := hok.small
  have k1 : Hid (∀ w', FMem o (p + 1) w' fb m sv rv → Calls Tryz.prog 25 #[.pointer (some ⟨fb, 0, none⟩)] w' fun r w'' => r = .returned (.tuple #[]) ∧ ∃ o' sv' rv', FMem o' (p + 1) w'' fb m.tick sv' rv' ∧ Fr (p + 1) o w' o' w'') := fun w' h' => tick_any h' (by omega) hsm (by omega) (by omega) hok.sim.fair.1
  have k2 : Hid (∀ o' w', RMem o' (p + 2) w' wb M nv kv qv → Calls Tryz.prog 26 #[.pointer (some ⟨wb, 0, none⟩)] w' fun r w'' => r = .returned (.tuple #[]) ∧ ∃ o'' nv', RMem o'' (p + 2) w'' wb M.tick nv' kv qv ∧ Fr (p + 2) o' w' o'' w'') := fun o' w' h' => rTick_any h' hok.good.wf hok.sim.rmrange hok.good.wf.ch.2 (by have := hok.good.queue; omega) (fun c _ => by have := hok.good.sent c; omega)
  have hok' : Hid (Ok m.tick M.tick (B + s.size + 6)) := hok.tick.mono (by omega)
  clear hok hsm hB hs
  generalize m.tick = m' at *
  generalize M.tick = M' at *
  have hb0 : Below w.heap.size w (w.alloc (.cells #[.int .i64 9, .int .i64 a, .string s, .int .i64 ch, .bool dyn, .int .i64 mn, .int .i64 mx, .int .i64 mr, .int .i64 tmo, .int .i64 bl, .int .i64 t] 33)) := (Below.refl _ _).alloc (Nat.le_refl _) _
  have hT := h.below hb0
  have fx0 := FrX.of_below (p := p) h.f.clean hb0
  have c0 := hT.g.fc
  go_enter Tryz.func12, Tryz.ntmps12
  go_wp2_with fail
  refine (k1.out _ hT.f).mono ?_
  rintro e w2 ⟨rfl, o2, sv2, rv2, hf2, fr2⟩
  have hg2 := hT.g.fr fr2 (by omega)
  have hr2 := hT.r.fr fr2 (by omega)
  have d1 := hg2.wc
  clear c0
  go_wp2_with fail
  refine (k2.out _ _ hr2).mono ?_
  rintro e w3 ⟨rfl, o3, nv3, hr3, fr3⟩
  have hg3 := hg2.fr fr3 (by omega)
  have hf3 := hf2.fr fr3 (by omega)
  clear d1
  go_wp2
  go_ret
  exact ⟨rfl, o3, sv2, rv2, nv3, kv, qv, m', M', ⟨hg3, hf3, hr3⟩, hok'.out, (fx0.trans (fr2.toX (by omega))).trans (fr3.toX (by omega))⟩

set_option maxRecDepth 100000 in
set_option maxHeartbeats 4000000 in
theorem step_reload (h : Trio p o w gb fb wb ls ts lv tv m sv rv M nv kv qv) (hok : Ok m M B) (hB : B ≤ 10000000) (x : St) (hx : x.kind = 10) :
    Calls Tryz.prog 12 #[.pointer (some ⟨gb, 0, none⟩), x.val] w fun r w' => r = .returned (.bool true) ∧ After p o w gb fb wb ls ts lv tv (B + x.s.size + 6) w' := by
  obtain ⟨kind, a, s, c, t⟩ := x
  simp only at hx
  subst hx
  have k1 : Hid (∀ w', FMem o (p + 1) w' fb m sv rv → Calls Tryz.prog 27 #[.pointer (some ⟨fb, 0, none⟩), c.val] w' fun r w'' => r = .returned (.int .i64 (reloadE c)) ∧ FMem o (p + 1) w'' fb (m.afterReload c) sv rv ∧ Fr (p + 1) o w' o w'') := fun w' h' => reload_any h' c
  have k2 : Hid (∀ o' w', RMem o' (p + 2) w' wb M nv kv qv → Calls Tryz.prog 28 #[.pointer (some ⟨wb, 0, none⟩), c.val] w' fun r w'' => r = .returned (.int .i64 (reloadE c)) ∧ RMem o' (p + 2) w'' wb (M.afterReload c) nv kv qv ∧ Fr (p + 2) o' w' o' w'') := fun o' w' h' => rReload_any h' hok.good.wf (by have := hok.good.queue; omega) c
  have hok' : Hid (Ok (m.afterReload c) (M.afterReload c) (B + s.size + 6)) := (hok.afterReload c).mono (by omega)
  clear hok hB
  generalize m.afterReload c = m' at *
  generalize M.afterReload c = M' at *
  generalize reloadE c = E at *
  obtain ⟨ch, dyn, mn, mx, mr, tmo, bl⟩ := c
  simp only [St.val]
  unfold Cfg.val at *
  have hb0 : Below w.heap.size w (w.alloc (.cells #[.int .i64 10, .int .i64 a, .string s, .int .i64 ch, .bool dyn, .int .i64 mn, .int .i64 mx, .int .i64 mr, .int .i64 tmo, .int .i64 bl, .int .i64 t] 33)) := (Below.refl _ _).alloc (Nat.le_refl _) _
  have x0 := Blk.made w 33 [.int .i64 10, .int .i64 a, .string s, .int .i64 ch, .bool dyn, .int .i64 mn, .int .i64 mx, .int .i64 mr, .int .i64 tmo, .int .i64 bl, .int .i64 t]
  have hcl := h.f.clean _ (Nat.le_refl w.heap.size)
  have hT := h.below hb0
  have fx0 := FrX.of_below (p := p) h.f.clean hb0
  have c0 := hT.g.fc
  go_enter Tryz.func12, Tryz.ntmps12
  go_wp2_with fail
  have x1 : Blk (w.alloc (.cells #[.int .i64 10, .int .i64 a, .string s, .int .i64 ch, .bool dyn, .int .i64 mn, .int .i64 mx, .int .i64 mr, .int .i64 tmo, .int .i64 bl, .int .i64 t] 33)) w.heap.size 33 [.int .i64 10, .int .i64 a, .string s, .int .i64 ch, .bool dyn, .int .i64 mn, .int .i64 mx, .int .i64 mr, .int .i64 tmo, .int .i64 bl, .int .i64 t] := x0
  clear x0 h
  generalize w.alloc (.cells #[.int .i64 10, .int .i64 a, .string s, .int .i64 ch, .bool dyn, .int .i64 mn, .int .i64 mx, .int .i64 mr, .int .i64 tmo, .int .i64 bl, .int .i64 t] 33) = w0 at *
  have y3 := x1.cell (k := 3) (u := .int .i64 ch) rfl
  have y4 := x1.cell (k := 4) (u := .bool dyn) rfl
  have y5 := x1.cell (k := 5) (u := .int .i64 mn) rfl
  have y6 := x1.cell (k := 6) (u := .int .i64 mx) rfl
  have y7 := x1.cell (k := 7) (u := .int .i64 mr) rfl
  have y8 := x1.cell (k := 8) (u := .int .i64 tmo) rfl
  have y9 := x1.cell (k := 9) (u := .int .i64 bl) rfl
  have hTd := hT.below (Below.refl _ _).drew
  have hlt0 : w.heap.size < w0.drew.heap.size := x1.lt
  go_region_held3 (fun w' => w'.cell? ⟨gb, 0, none⟩ = some (.pointer (some ⟨fb, 0, none⟩)) ∧ w'.cell? ⟨w.heap.size, 3, none⟩ = some (.int .i64 ch) ∧ w'.cell? ⟨w.heap.size, 4, none⟩ = some (.bool dyn) ∧ w'.cell? ⟨w.heap.size, 5, none⟩ = some (.int .i64 mn) ∧ w'.cell? ⟨w.heap.size, 6, none⟩ = some (.int .i64 mx) ∧ w'.cell? ⟨w.heap.size, 7, none⟩ = some (.int .i64 mr) ∧ w'.cell? ⟨w.heap.size, 8, none⟩ = some (.int .i64 tmo) ∧ w'.cell? ⟨w.heap.size, 9, none⟩ = some (.int .i64 bl)) (first | exact ⟨c0, y3, y4, y5, y6, y7, y8, y9⟩ | exact ⟨d0, z3, z4, z5, z6, z7, z8, z9⟩) (first | (go_at_call 27; refine (k1.out _ hTd.f).mono ?_; rintro e w2 ⟨rfl, hf2, fr2⟩; have hg2 := hTd.g.fr fr2 (by omega); have hr2 := hTd.r.fr fr2 (by omega); have x2 : Blk w2 w.heap.size 33 _ := x1.keep (fr2.block _ x1.lt (by rw [hcl]; exact fun e => by cases e)); have d0 := hg2.fc; have z3 := x2.cell (k := 3) (u := .int .i64 ch) rfl; have z4 := x2.cell (k := 4) (u := .bool dyn) rfl; have z5 := x2.cell (k := 5) (u := .int .i64 mn) rfl; have z6 := x2.cell (k := 6) (u := .int .i64 mx) rfl; have z7 := x2.cell (k := 7) (u := .int .i64 mr) rfl; have z8 := x2.cell (k := 8) (u := .int .i64 tmo) rfl; have z9 := x2.cell (k := 9) (u := .int .i64 bl) rfl))
  have fx2 := (fx0.below (Below.refl _ _).drew).trans (fr2.toX (by omega))
  have d1 := hg2.wc
  clear c0 y3 y4 y5 y6 y7 y8 y9 hTd hT x1 k1 hb0
  go_wp2_with fail
  refine (num_any _ _).mono ?_
  rintro e w3 ⟨rfl, rfl⟩
  go_wp2_with fail
  have hr2d := hr2.below (Below.refl _ _).drew
  go_region_held3 (fun w' => w'.cell? ⟨gb, 1, none⟩ = some (.pointer (some ⟨wb, 0, none⟩)) ∧ w'.cell? ⟨w.heap.size, 3, none⟩ = some (.int .i64 ch) ∧ w'.cell? ⟨w.heap.size, 4, none⟩ = some (.bool dyn) ∧ w'.cell? ⟨w.heap.size, 5, none⟩ = some (.int .i64 mn) ∧ w'.cell? ⟨w.heap.size, 6, none⟩ = some (.int .i64 mx) ∧ w'.cell? ⟨w.heap.size, 7, none⟩ = some (.int .i64 mr) ∧ w'.cell? ⟨w.heap.size, 8, none⟩ = some (.int .i64 tmo) ∧ w'.cell? ⟨w.heap.size, 9, none⟩ = some (.int .i64 bl)) (first | exact ⟨d1, z3, z4, z5, z6, z7, z8, z9⟩ | exact ⟨e1, u3, u4, u5, u6, u7, u8, u9⟩) (first | (go_at_call 28; refine (k2.out _ _ hr2d).mono ?_; rintro e w4 ⟨rfl, hr4, fr4⟩; have hg4 := (hg2.below (Below.refl _ _).drew).fr fr4 (by omega); have hf4 := (hf2.below (Below.refl _ _).drew).fr fr4 (by omega); have x4 : Blk w4 w.heap.size 33 _ := x2.keep (fr4.block _ x2.lt (by rw [hcl]; exact fun e => by cases e)); have e1 := hg4.wc; have u3 := x4.cell (k := 3) (u := .int .i64 ch) rfl; have u4 := x4.cell (k := 4) (u := .bool dyn) rfl; have u5 := x4.cell (k := 5) (u := .int .i64 mn) rfl; have u6 := x4.cell (k := 6) (u := .int .i64 mx) rfl; have u7 := x4.cell (k := 7) (u := .int .i64 mr) rfl; have u8 := x4.cell (k := 8) (u := .int .i64 tmo) rfl; have u9 := x4.cell (k := 9) (u := .int .i64 bl) rfl))
  have fx4 := (fx2.below (Below.refl _ _).drew).trans (fr4.toX (by omega))
  clear d0 d1 e1 z3 z4 z5 z6 z7 z8 z9 u3 u4 u5 u6 u7 u8 u9
  go_wp2
  go_ret
  exact ⟨by simp, o, sv, rv, nv, kv, qv, m', M', ⟨hg4, hf4, hr4⟩, hok'.out, fx4⟩

/-- A step of whatever kind. -/
theorem step_all (h : Trio p o w gb fb wb ls ts lv tv m sv rv M nv kv qv) (hok : Ok m M B) (hB : B ≤ 10000000) (x : St) (hs : x.s.size ≤ 10000000) :
    Calls Tryz.prog 12 #[.pointer (some ⟨gb, 0, none⟩), x.val] w fun r w' => r = .returned (.bool true) ∧ After p o w gb fb wb ls ts lv tv (B + x.s.size + 6) w' := by
  have up : ∀ {P : Ending → World → Prop}, (∀ r w', P r w' → r = .returned (.bool true) ∧ After p o w gb fb wb ls ts lv tv (B + x.s.size + 1) w') → ∀ r w', P r w' → r = .returned (.bool true) ∧ After p o w gb fb wb ls ts lv tv (B + x.s.size + 6) w' := fun f r w' hP => ⟨(f r w' hP).1, (f r w' hP).2.mono (by omega)⟩
  by_cases h8 : x.kind ≤ 8
  · exact (step_any h hok hB x hs h8).mono (up fun _ _ h => h)
  · by_cases h9 : x.kind = 9
    · exact step_tick h hok hB x hs h9
    · by_cases h10 : x.kind = 10
      · exact step_reload h hok hB x h10
      · exact (step_none h hok x (.inr (by omega))).mono (up fun _ _ h => h)
end
end Go.Proofs.YtlafkpaljibonaaGreat
