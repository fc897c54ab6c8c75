import Derived.Test.YtlafkpaljibonaaJ11
import Derived.ProofKit
import Derived.OpenShut
import Derived.ChangeOld
import Derived.Deep.Slices
namespace Go.Proofs.Ytlafkpaljibonaa
open Go.RowKit

/-- The state behind i Ticks, the lease of the time P. -/
def lateS (t P : Int) (i : Nat) : PM := if 0 < t ∧ t ≤ (i : Int) then mkT (lateC t) (P + i) conL [] dyingS else mkT (lateC t) (P + i) con2 [⟨2, 5, 2, ⟨#[]⟩⟩] (busyS P)

theorem lateS_tick (t P : Int) (i : Nat) (hP0 : 0 ≤ P) (hP : P ≤ 100) (hi : i ≤ 100) : (lateS t P i).tick = lateS t P (i + 1) := by
  have w1 : wrap64 (P + i + 1) = P + ((i + 1 : Nat) : Int) := by rw [wrap_small (by omega) (by omega)]; omega
  have w2 : wrap64 (P + ((i + 1 : Nat) : Int) - P) = ((i + 1 : Nat) : Int) := by rw [wrap_small (by omega) (by omega)]; omega
  unfold lateS
  by_cases h : 0 < t ∧ t ≤ (i : Int)
  · rw [if_pos h, if_pos (by omega)]
    rw [tick_calm rfl rfl (show (4 : Int) ≠ 0 by decide) (show (4 : Int) ≠ 2 by decide) (show (4 : Int) ≠ 3 by decide), w1]
  · rw [if_neg h]
    by_cases h2 : 0 < t ∧ t ≤ ((i + 1 : Nat) : Int)
    · rw [if_pos h2, tick_late t (P + i) P h2.1 (by rw [w1, w2]; exact h2.2), w1]
    · rw [if_neg h2, tick_busy t (P + i) P (by rw [w1, w2]; exact h2), w1]

theorem lateC_ok {t : Int} (h0 : 0 ≤ t) (h1 : t < 60) : (lateC t).ok = true := by
  unfold lateC Cfg.ok
  simp only [Bool.and_eq_true, Bool.or_eq_true, decide_eq_true_eq]
  refine ⟨⟨⟨⟨?_, ?_⟩, ?_, ?_⟩, ⟨?_, ?_⟩, ?_, ?_⟩, .inl rfl⟩ <;> omega

theorem late_sent : strOfNums (nums (encB 3 5 (strOfNums [6]))) = enc 3 5 ⟨#[6]⟩ (padL 0) := by
  rw [strOfNums_nums]
  have : encB 3 5 (strOfNums [6]) = enc 3 5 (strOfNums [6]) [] := by
    unfold encB
    rfl
  rw [this]
  rfl

section
variable {o o' : Nat → Tag} {w w' : World} {b B : Nat} {M : PM} {sv : Nat → Value} {rv : Value}

set_option maxRecDepth 100000 in
set_option maxHeartbeats 8000000 in
theorem late_any (tm bf tk : Int) (h1 : i64R tm) (h2 : i64R bf) (h3 : i64R tk) (w : World) :
    Calls Try.prog 7 #[.int .i64 tm, .int .i64 bf, .int .i64 tk] w fun r w' => r = .returned (.bool true) ∧ Below w.heap.size w w' := by
  have p1 := pickI_bd tm 60 (by omega)
  have p2 := pickI_bd bf 20 (by omega)
  have p3 := pickI_bd tk 80 (by omega)
  have q1 : Hid (∀ w', Calls Try.prog 15 #[.int .i64 tm, .int .i64 60] w' fun r w'' => r = .returned (.int .i64 (pickI tm 60)) ∧ w'' = w') := fun w' => pick_any _ _ w' h1.1 h1.2 (by omega) (by omega)
  have q2 : Hid (∀ w', Calls Try.prog 15 #[.int .i64 bf, .int .i64 20] w' fun r w'' => r = .returned (.int .i64 (pickI bf 20)) ∧ w'' = w') := fun w' => pick_any _ _ w' h2.1 h2.2 (by omega) (by omega)
  have q3 : Hid (∀ w', Calls Try.prog 15 #[.int .i64 tk, .int .i64 80] w' fun r w'' => r = .returned (.int .i64 (pickI tk 80)) ∧ w'' = w') := fun w' => pick_any _ _ w' h3.1 h3.2 (by omega) (by omega)
  generalize pickI tm 60 = t at *
  obtain ⟨P, hP⟩ : ∃ P : Nat, pickI bf 20 = P := ⟨(pickI bf 20).toNat, by omega⟩
  obtain ⟨n, hn⟩ : ∃ n : Nat, pickI tk 80 = n := ⟨(pickI tk 80).toNat, by omega⟩
  rw [hP] at q2 p2
  rw [hn] at q3 p3
  clear hP hn h1 h2 h3
  have kO : Hid (∀ (o : Nat → Tag) w', Clean o w' → Calls Try.prog 22 #[.agg #[.int .i64 1, .bool false, .int .i64 0, .int .i64 0, .int .i64 0, .int .i64 t, .int .i64 1]] w' fun r w'' => ∃ b o', r = .returned (.pointer (some ⟨b, 0, none⟩)) ∧ FMem o' 1 w'' b (mkT (lateC t) 0 con0 [] (newSlot 1)) nilV (.slice none 0 0) ∧ Fr 1 o w' o' w'') := fun o w' ho => by
    have := opened_any (q := 1) (o := o) (w := w') (lateC t) (lateC_ok p1.1 p1.2) ho
    rw [new_late] at this
    exact this
  have hFA : ∀ j : Nat, j ≤ 20 → (mkT (lateC t) j con0 [] (newSlot 1)).Fit (1000 * j) := by
    intro j
    induction j with
    | zero => intro _; show (mkT (lateC t) 0 con0 [] (newSlot 1)).Fit 0; rw [← new_late]; exact new_fit _
    | succ j ih =>
      intro hj
      have := (ih (by omega)).tick
      rw [tick_calm rfl rfl (show (1 : Int) ≠ 0 by decide) (show (1 : Int) ≠ 2 by decide) (show (1 : Int) ≠ 3 by decide), wrap_small (by omega) (by omega)] at this
      exact this.mono (by omega)
  have hFB : (mkT (lateC t) P con2 [] (newSlot 2)).Fit 30000 := by
    have := ((hFA P (by omega)).afterSpawned 0).afterConnect 2
    rw [spawn_late, connect_late] at this
    exact this.mono (by omega)
  have hFC : ∀ i : Nat, i ≤ 80 → (lateS t P i).Fit (50000 + 1000 * i) := by
    intro i
    induction i with
    | zero =>
      intro _
      have f1 := hFB.afterFeed 2 (enc 1 5 ⟨#[1]⟩ (padL 0))
      rw [begin_late] at f1
      have f2 := f1.afterFeed 2 (enc 5 5 ⟨#[120]⟩ (padL 1))
      rw [in_late] at f2
      have f3 := f2.afterFeed 2 (enc 5 5 ⟨#[]⟩ (padL 0))
      rw [end_late] at f3
      have e0 : lateS t P 0 = mkT (lateC t) P con2 [⟨2, 5, 2, ⟨#[]⟩⟩] (busyS P) := by
        unfold lateS
        rw [if_neg (by omega)]
        congr 1
      rw [e0]
      refine f3.mono ?_
      simp only [enc_size, padL_length]
      show 30000 + (8 + 1 + 0) + 300 + (8 + 1 + 1) + 300 + (8 + 0 + 0) + 300 ≤ _
      omega
    | succ i ih =>
      intro hi
      have := (ih (by omega)).tick
      rw [lateS_tick t P i (by omega) (by omega) (by omega)] at this
      exact this.mono (by omega)
  have hB : mkT (lateC t) P con2 [⟨2, 5, 2, ⟨#[]⟩⟩] (busyS P) = lateS t P 0 := by
    unfold lateS
    rw [if_neg (by omega)]
    congr 1
  have kT1 : Hid (∀ (j : Nat) o b w', j < P → Sole o w' b (mkT (lateC t) j con0 [] (newSlot 1)) → Calls Try.prog 33 #[.pointer (some ⟨b, 0, none⟩)] w' fun r w'' => r = .returned (.tuple #[]) ∧ ∃ o', Sole o' w'' b (mkT (lateC t) ((j + 1 : Nat) : Int) con0 [] (newSlot 1)) ∧ Fr 1 o w' o' w'') := fun j o b w' hj h => by
    refine sole_tick h (hFA j (by omega)) (by omega) ?_
    rw [tick_calm rfl rfl (show (1 : Int) ≠ 0 by decide) (show (1 : Int) ≠ 2 by decide) (show (1 : Int) ≠ 3 by decide), wrap_small (by omega) (by omega)]
    rfl
  have kT2 : Hid (∀ (i : Nat) o b w', i < n → Sole o w' b (lateS t P i) → Calls Try.prog 33 #[.pointer (some ⟨b, 0, none⟩)] w' fun r w'' => r = .returned (.tuple #[]) ∧ ∃ o', Sole o' w'' b (lateS t P (i + 1)) ∧ Fr 1 o w' o' w'') := fun i o b w' hi h => sole_tick h (hFC i (by omega)) (by omega) (lateS_tick t P i (by omega) (by omega) (by omega))
  have kS : Hid (∀ o b w', Sole o w' b (mkT (lateC t) P con0 [] (newSlot 1)) → Calls Try.prog 34 #[.pointer (some ⟨b, 0, none⟩), .int .i64 0] w' fun r w'' => r = .returned (.int .i64 0) ∧ ∃ o', Sole o' w'' b (mkT (lateC t) P con0 [] (newSlot 2)) ∧ Fr 1 o w' o' w'') := fun o b w' h => by
    obtain ⟨_, _, h⟩ := h
    refine (spawned_left h 0).mono ?_
    rintro r w'' ⟨e, o', x, y, h1, h2⟩
    rw [spawn_late] at h1
    exact ⟨e, o', ⟨x, y, h1⟩, h2⟩
  have kC : Hid (∀ o b w', Sole o w' b (mkT (lateC t) P con0 [] (newSlot 2)) → Calls Try.prog 24 #[.pointer (some ⟨b, 0, none⟩), .int .i64 2] w' fun r w'' => r = .returned (.int .i64 0) ∧ ∃ o', Sole o' w'' b (mkT (lateC t) P con2 [] (newSlot 2)) ∧ Fr 1 o w' o' w'') := fun o b w' h => by
    obtain ⟨_, _, h⟩ := h
    refine (connect_left h 2).mono ?_
    rintro r w'' ⟨e, o', x, y, h1, h2⟩
    rw [connect_late] at h1
    exact ⟨e, o', ⟨x, y, h1⟩, h2⟩
  have kF : Hid (∀ o b w', Sole o w' b (mkT (lateC t) P con2 [] (newSlot 2)) → Calls Try.prog 29 #[.pointer (some ⟨b, 0, none⟩), .int .i64 2, .int .i64 5, .string ⟨#[120]⟩, .int .i64 1] w' fun r w'' => r = .returned (.bool true) ∧ ∃ o', Sole o' w'' b (lateS t P 0) ∧ Fr 1 o w' o' w'') := fun o b w' h => by
    rw [← hB]
    exact fed_late t P h hFB (by omega)
  have kL : Hid (∀ o b w', Sole o w' b (lateS t P n) → Calls Try.prog 35 #[.pointer (some ⟨b, 0, none⟩), .int .i64 0] w' fun r w'' => r = .returned (.tuple #[(lateS t P n).slotV 0, .int .i64 0]) ∧ Below w'.heap.size w' w'') := fun o b w' h => by
    obtain ⟨_, _, h⟩ := h
    exact slot_any h 0
  have kN : Hid (∀ o b w', Sole o w' b (lateS t P n) → Calls Try.prog 36 #[.pointer (some ⟨b, 0, none⟩), .int .i64 2] w' fun r w'' => r = .returned (.string ((lateS t P n).sent_ 2)) ∧ w'' = w') := fun o b w' h => by
    obtain ⟨_, _, h⟩ := h
    exact sent_any h 2
  have kY : Hid (∀ w', Calls Try.prog 16 #[.int .i64 3, .int .i64 5, .string ⟨#[6]⟩, .int .i64 0] w' fun r w'' => r = .returned (.string (enc 3 5 ⟨#[6]⟩ (padL 0))) ∧ Below w'.heap.size w' w'') := fun w' => bytes_any 3 5 ⟨#[6]⟩ 0 w' (by omega) (by omega) (by decide) (by omega)
  have kO' : Hid (∀ (o : Nat → Tag) w', Clean o w' → Calls Try.prog 22 #[.agg #[.int .i64 1, .bool false, .int .i64 0, .int .i64 0, .int .i64 0, .int .i64 t, .int .i64 1]] w' fun r w'' => ∃ b o', r = .returned (.pointer (some ⟨b, 0, none⟩)) ∧ Sole o' w'' b (mkT (lateC t) (0 : Nat) con0 [] (newSlot 1)) ∧ Fr 1 o w' o' w'') := fun o w' ho => by
    refine (kO o w' ho).mono ?_
    rintro r w'' ⟨b, o', e, h1, h2⟩
    exact ⟨b, o', e, ⟨_, _, h1⟩, h2⟩
  have hEnd : Hid ((0 < t ∧ t ≤ n ∧ (lateS t P n).sent_ 2 = enc 3 5 ⟨#[6]⟩ (padL 0) ∧ (lateS t P n).slotV 0 = .agg #[.int .i64 4, .bool false, .int .i64 1, .int .i64 0, .int .i64 (-1), .int .i64 0]) ∨ (¬ (0 < t ∧ t ≤ n) ∧ (lateS t P n).sent_ 2 = ⟨#[]⟩ ∧ (lateS t P n).slotV 0 = .agg #[.int .i64 3, .bool false, .int .i64 1, .int .i64 P, .int .i64 2, .int .i64 5])) := by
    by_cases h : 0 < t ∧ t ≤ (n : Int)
    · refine .inl ⟨h.1, h.2, ?_, ?_⟩
      · unfold lateS; rw [if_pos h]; exact late_sent
      · unfold lateS; rw [if_pos h]; rfl
    · refine .inr ⟨h, ?_, ?_⟩
      · unfold lateS; rw [if_neg h]; rfl
      · unfold lateS; rw [if_neg h]; rfl
  clear hFA hFB hFC hB kO
  generalize lateS t P = L at *
  generalize mkT (lateC t) P con2 [] (newSlot 2) = M2 at *
  generalize mkT (lateC t) P con0 [] (newSlot 2) = M1 at *
  obtain ⟨A, hA⟩ : ∃ A : Nat → PM, ∀ j : Nat, mkT (lateC t) j con0 [] (newSlot 1) = A j := ⟨_, fun _ => rfl⟩
  simp only [hA] at kT1 kS kO'
  clear hA
  generalize enc 3 5 ⟨#[6]⟩ (padL 0) = E at *
  have cl0 : Clean noK w := fun _ _ => rfl
  go_enter Try.func7, Try.ntmps7
  go_wp2_with fail
  refine (q1.out _).mono ?_
  rintro e w1 ⟨rfl, rfl⟩
  go_wp2_with fail
  refine (kO'.out _ _ cl0).mono ?_
  rintro e w2 ⟨b, o2, rfl, h2, fr2⟩
  clear kO' q1
  go_wp2_with fail
  refine (q2.out _).mono ?_
  rintro e w3 ⟨rfl, rfl⟩
  clear q2
  go_wp2
  go_loopw [9] (fun i w' => ∃ j : Nat, j ≤ P ∧ i = .int .i64 ((P : Int) - j) ∧ ∃ o', Sole o' w' b (A j) ∧ Fr 1 noK w1 o' w') (fun i _ => (intOf i).toNat)
  case atStart => exact ⟨0, by omega, by simp, o2, h2, fr2⟩
  case round =>
    obtain ⟨j, hj, rfl, o3, h3, fr3⟩ := hrel
    by_cases hlt : j < P
    · have hI : (P : Int) - j > 0 := by omega
      have kk : Hid (∀ o w', Sole o w' b (A j) → Calls Try.prog 33 #[.pointer (some ⟨b, 0, none⟩)] w' fun r w'' => r = .returned (.tuple #[]) ∧ ∃ o', Sole o' w'' b (A (j + 1)) ∧ Fr 1 o w' o' w'') := fun o w' => kT1.out j o b w' hlt
      go_wp2_with fail
      refine (kk.out _ _ h3).mono ?_
      rintro e w4 ⟨rfl, o4, h4, fr4⟩
      have hw : wrap64 ((P : Int) - j - 1) = (P : Int) - ((j + 1 : Nat) : Int) := by rw [wrap_small (by omega) (by omega)]; omega
      go_wp2
      refine ⟨⟨j + 1, by omega, ?_, o4, h4, fr3.trans fr4⟩, ?_⟩
      · first | rw [hw] | (congr 1; omega)
      · simp only [intOf]
        omega
    · have hI : (P : Int) - j = 0 := by omega
      have hj' : j = P := by omega
      subst hj'
      rw [hI]
      clear kT1
      go_wp2_with fail
      refine (kS.out _ _ _ h3).mono ?_
      rintro e w4 ⟨rfl, o4, h4, fr4⟩
      clear kS
      go_wp2_with fail
      refine (kC.out _ _ _ h4).mono ?_
      rintro e w5 ⟨rfl, o5, h5, fr5⟩
      clear kC
      go_wp2_with fail
      refine (kF.out _ _ _ h5).mono ?_
      rintro e w6 ⟨rfl, o6, h6, fr6⟩
      clear kF
      have fx6 := ((fr3.trans fr4).trans fr5).trans fr6
      clear fr2 fr3 fr4 fr5 fr6 h2 h3 h4 h5
      go_wp2_with fail
      refine (q3.out _).mono ?_
      rintro e w7 ⟨rfl, rfl⟩
      clear q3
      go_wp2
      go_loopw [14] (fun i w' => ∃ k : Nat, k ≤ n ∧ i = .int .i64 k ∧ ∃ o', Sole o' w' b (L k) ∧ Fr 1 noK w1 o' w') (fun i _ => n - (intOf i).toNat)
      case atStart => exact ⟨0, by omega, rfl, o6, h6, fx6⟩
      case round =>
        obtain ⟨k, hk, rfl, o8, h8, fr8⟩ := hrel
        by_cases hlt : k < n
        · have hI : (k : Int) < n := by omega
          have kk : Hid (∀ o w', Sole o w' b (L k) → Calls Try.prog 33 #[.pointer (some ⟨b, 0, none⟩)] w' fun r w'' => r = .returned (.tuple #[]) ∧ ∃ o', Sole o' w'' b (L (k + 1)) ∧ Fr 1 o w' o' w'') := fun o w' => kT2.out k o b w' hlt
          go_wp2_with fail
          refine (kk.out _ _ h8).mono ?_
          rintro e w9 ⟨rfl, o9, h9, fr9⟩
          go_wp2
          refine ⟨⟨k + 1, by omega, ?_, o9, h9, fr8.trans fr9⟩, ?_⟩
          · congr 1
          · simp only [intOf]
            omega
        · have hkn : k = n := by omega
          subst hkn
          have hI : ¬ (k : Int) < k := by omega
          clear kT2
          go_wp2_with fail
          refine (kL.out _ _ _ h8).mono ?_
          rintro e w9 ⟨rfl, hb9⟩
          have hs8 : Sole o8 w9 b (L k) := h8.below hb9
          have fr9 := fr8.below hb9
          rcases hEnd.out with ⟨g1, g2, g3, g4⟩ | ⟨g1, g3, g4⟩
          · rw [g4]
            rw [g3] at kN
            clear hEnd kL
            have hbx : Below w9.heap.size w9 (w9.alloc (.cells #[.int .i64 4, .bool false, .int .i64 1, .int .i64 0, .int .i64 (-1), .int .i64 0] 58)) := (Below.refl _ _).alloc (Nat.le_refl _) _
            have x0 : Blk (w9.alloc (.cells #[.int .i64 4, .bool false, .int .i64 1, .int .i64 0, .int .i64 (-1), .int .i64 0] 58)) w9.heap.size 58 [.int .i64 4, .bool false, .int .i64 1, .int .i64 0, .int .i64 (-1), .int .i64 0] := Blk.made w9 58 _
            go_wp2_with fail
            generalize w9.alloc (.cells #[.int .i64 4, .bool false, .int .i64 1, .int .i64 0, .int .i64 (-1), .int .i64 0] 58) = w10 at *
            have hs10 := hs8.below hbx
            have fr10 := fr9.below hbx
            refine (kN.out _ _ _ hs10).mono ?_
            rintro e w11 ⟨rfl, rfl⟩
            have d0 := x0.cell (k := 0) rfl
            have d5 := x0.cell (k := 5) rfl
            clear kN
            go_wp2_with fail
            refine (kY.out _).mono ?_
            rintro e w12 ⟨rfl, hb12⟩
            go_wp2
            go_ret
            have fxF := fr10.below hb12
            exact ⟨rfl, fxF.toBelow _ (Nat.le_refl _) (fun g hg => by simp [noK])⟩
          · rw [g4]
            rw [g3] at kN
            clear hEnd kL
            have hbx : Below w9.heap.size w9 (w9.alloc (.cells #[.int .i64 3, .bool false, .int .i64 1, .int .i64 j, .int .i64 2, .int .i64 5] 58)) := (Below.refl _ _).alloc (Nat.le_refl _) _
            have x0 : Blk (w9.alloc (.cells #[.int .i64 3, .bool false, .int .i64 1, .int .i64 j, .int .i64 2, .int .i64 5] 58)) w9.heap.size 58 [.int .i64 3, .bool false, .int .i64 1, .int .i64 j, .int .i64 2, .int .i64 5] := Blk.made w9 58 _
            go_wp2_with fail
            generalize w9.alloc (.cells #[.int .i64 3, .bool false, .int .i64 1, .int .i64 j, .int .i64 2, .int .i64 5] 58) = w10 at *
            have hs10 := hs8.below hbx
            have fr10 := fr9.below hbx
            refine (kN.out _ _ _ hs10).mono ?_
            rintro e w11 ⟨rfl, rfl⟩
            have d0 := x0.cell (k := 0) rfl
            have d5 := x0.cell (k := 5) rfl
            clear kN
            by_cases ht : t > 0
            · have hnt : ¬ ((k : Int) ≥ t) := by omega
              go_wp2
              go_ret
              exact ⟨rfl, fr10.toBelow _ (Nat.le_refl _) (fun g hg => by simp [noK])⟩
            · go_wp2
              go_ret
              exact ⟨rfl, fr10.toBelow _ (Nat.le_refl _) (fun g hg => by simp [noK])⟩
end
end Go.Proofs.Ytlafkpaljibonaa

namespace Go.Proofs.Ytlafkpaljibonaa.late
open Go.ChangeShapes Go.WideShapes Go.ChangeAt Go.RowKit Go.Deep

set_option maxRecDepth 100000 in
theorem own : ownKnob Try.prog.godebug = none := by kernel_rfl
set_option maxRecDepth 100000 in
theorem laidOut : laidOutB Try.prog = true := by kernel_rfl

set_option maxRecDepth 100000 in
theorem wf_bd {n : Int} (h : (Lit.int .i64 n).wf = true) : -9223372036854775808 ≤ n ∧ n ≤ 9223372036854775807 := by
  simpa [Lit.wf, IntKind.min, IntKind.max, IntKind.signed, IntKind.bits] using h

set_option maxRecDepth 100000 in
theorem lifted (os : Os) (started : os.Started) (H : Type) (enc : TypeId × Value → H) :
    ReturnsInHanded {} Try.checked os 7 .any (Rows.lateSpec.pre6 enc Try.prog Try.f7 Rows.lateRow.domain false) (Rows.lateSpec.post enc Try.prog Try.f7 false true false false) := by
  refine returnsInHanded_of_change (C := Try.checked) own started (by kernel_rfl) Try.func7
    (ChangeSpec.witness6 (enc := enc) (C := Try.checked) false ⟨#[], #[.int .i64 0, .int .i64 0, .int .i64 0], []⟩ 8 (by kernel_rfl) (by kernel_rfl) (by kernel_rfl) (by kernel_rfl)) ?_
  intro W base args ds gs before hval0 hW hcnd _
  have hval : ∀ (j : Nat) t v, Try.f7.params[j]? = some t → args[j]? = some v → Value.okWide Try.prog W .any base t v := hval0
  have hW' := hW
  obtain ⟨p, q, hA0, hV, rfl, hfz, hnd⟩ := hW
  have hA : DataW.TrodAll enc Try.prog W 0 (fun _ => true) true Try.f7.params.toList args.toList ds p := hA0
  rw [Try.params7] at hA hval
  obtain ⟨v0, vs0, d0, ds0, p0, q0, hargs, rfl, rfl, h0, r0⟩ := trodAll_cons hA
  obtain ⟨v1, vs1, d1, ds1, p1, q1, rfl, rfl, rfl, h1, r1⟩ := trodAll_cons r0
  obtain ⟨v2, vs2, d2, ds2, p2, q2, rfl, rfl, rfl, h2, r2⟩ := trodAll_cons r1
  obtain ⟨rfl, rfl, rfl⟩ := trodAll_nil r2
  obtain rfl : args = #[v0, v1, v2] := by cases args; simp_all
  obtain ⟨rfl, rfl⟩ := trodVars_none hV
  obtain ⟨n0, rfl, rfl, rfl, w0⟩ := open_int Try.underlying3 (hval 0 3 v0 rfl rfl) h0
  obtain ⟨n1, rfl, rfl, rfl, w1⟩ := open_int Try.underlying3 (hval 1 3 v1 rfl rfl) h1
  obtain ⟨n2, rfl, rfl, rfl, w2⟩ := open_int Try.underlying3 (hval 2 3 v2 rfl rfl) h2
  clear hA0 hval0
  refine (late_any n0 n1 n2 (wf_bd w0) (wf_bd w1) (wf_bd w2) W).mono fun e W' ⟨he, bel⟩ => ?_
  subst he
  exact ⟨_, rfl, _, _, _, [], _, [], hW', trodAll_mk1 (shut_bool Try.underlying4 _), (trodAll_cons_mk (shut_int Try.underlying3 w0) (trodAll_cons_mk (shut_int Try.underlying3 w1) (trodAll_cons_mk (shut_int Try.underlying3 w2) trodAll_mk0))), rfl, bel.frame _, fun h => by cases h⟩

set_option maxRecDepth 100000 in
theorem proved : Rows.LateSaid :=
  OpenClaim.holds_of_wide 7 Try.f7 rfl rfl rfl rfl rfl rfl rfl ⟨rfl, rfl, rfl, rfl, rfl⟩ rfl rfl rfl rfl rfl (by kernel_rfl) Try.func7 (by kernel_rfl)
    (of_decide_eq_true (by kernel_rfl)) (by unfold Func.isWrapper; first | (rw [if_pos (by decide +kernel)]; kernel_rfl) | (rw [if_neg (by decide +kernel)]; exact ⟨rfl, rfl⟩))
    (fun os started H enc _ => lifted os started H enc)
#print axioms proved
end Go.Proofs.Ytlafkpaljibonaa.late
