import Derived.Test.YtlafkpaljibonaaJ13
import Derived.ProofKit
import Derived.OpenShut
import Derived.ShutString
import Derived.ChangeOld
import Derived.Deep.Slices
import Derived.Deep.Strs
namespace Go.Proofs.Ytlafkpaljibonaa
open Go.RowKit

set_option maxRecDepth 100000 in
set_option maxHeartbeats 8000000 in
theorem whole_any (aX : Option Addr) (nX cX : Nat) (X : Nat → ByteArray) (aY : Option Addr) (nY cY : Nat) (Y : Nat → ByteArray) (n most : Int) (h1 : i64R n) (h2 : i64R most) (w : World) (hX : IsStrs w aX nX X) (hY : IsStrs w aY nY Y) (hnX : nX ≤ 9223372036854775807) (hnY : nY ≤ 9223372036854775807) :
    Calls Try.prog 6 #[.slice aX nX cX, .slice aY nY cY, .int .i64 n, .int .i64 most] w fun r w' => r = .returned (.bool true) ∧ Below w.heap.size w w' := by
  have p1 := pickI_bd n 200 (by omega)
  have p2 := pickI_bd most 4 (by omega)
  have q1 : Hid (∀ w', Calls Try.prog 15 #[.int .i64 n, .int .i64 200] w' fun r w'' => r = .returned (.int .i64 (pickI n 200)) ∧ w'' = w') := fun w' => pick_any _ _ w' h1.1 h1.2 (by omega) (by omega)
  have q2 : Hid (∀ w', Calls Try.prog 15 #[.int .i64 most, .int .i64 4] w' fun r w'' => r = .returned (.int .i64 (pickI most 4)) ∧ w'' = w') := fun w' => pick_any _ _ w' h2.1 h2.2 (by omega) (by omega)
  generalize pickI most 4 = mr at *
  obtain ⟨P, hP⟩ : ∃ P : Nat, pickI n 200 = P := ⟨(pickI n 200).toNat, by omega⟩
  rw [hP] at q1 p1
  clear hP h1 h2
  obtain ⟨body, hbody⟩ : ∃ body : Nat → ByteArray, ∀ i, shortB (X i) 500 = body i := ⟨_, fun _ => rfl⟩
  have hbd : ∀ i, (body i).size ≤ 500 := fun i => by rw [← hbody]; exact shortB_le _ _
  have kSh : Hid (∀ i w', Calls Try.prog 30 #[.string (X i), .int .i64 500] w' fun r w'' => r = .returned (.string (body i)) ∧ w'' = w') := fun i w' => by
    have := short_any (X i) 500 w' (by omega)
    rw [hbody] at this
    exact this
  have kSa : Hid (∀ i w', Calls Try.prog 30 #[.string (Y i), .int .i64 1000] w' fun r w'' => ∃ t : ByteArray, t.size ≤ 1000 ∧ r = .returned (.string t) ∧ w'' = w') := fun i w' => by
    refine (short_any (Y i) 1000 w' (by omega)).mono ?_
    rintro r w'' ⟨e1, e2⟩
    exact ⟨_, shortB_le _ _, e1, e2⟩
  clear hbody
  obtain ⟨k, hk12, hkX, hkd⟩ : ∃ k : Nat, k ≤ 12 ∧ k ≤ nX ∧ (12 < nX ∧ k = 12 ∨ nX ≤ 12 ∧ k = nX) := by
    by_cases h : 12 < nX
    · exact ⟨12, by omega, by omega, .inl ⟨h, rfl⟩⟩
    · exact ⟨nX, by omega, by omega, .inr ⟨by omega, rfl⟩⟩
  have kO : Hid (∀ (o : Nat → Tag) w', Clean o w' → Calls Try.prog 22 #[.agg #[.int .i64 1, .bool false, .int .i64 0, .int .i64 0, .int .i64 mr, .int .i64 0, .int .i64 20]] w' fun r w'' => ∃ b o', r = .returned (.pointer (some ⟨b, 0, none⟩)) ∧ Sole o' w'' b (mkW (whC mr) (conN 0) [] (newSlot 1)) ∧ Fr 1 o w' o' w'') := fun o w' ho => by
    have := opened_any (q := 1) (o := o) (w := w') (whC mr) (whC_ok p2.1 p2.2) ho
    rw [new_whole] at this
    refine Calls.mono this ?_
    rintro r w'' ⟨b, o', e, h1, h2⟩
    exact ⟨b, o', e, ⟨_, _, h1⟩, h2⟩
  have kC : Hid (∀ (j : Nat) o b w', j < 4 → Sole o w' b (mkW (whC mr) (conN j) [] (newSlot 1)) → Calls Try.prog 24 #[.pointer (some ⟨b, 0, none⟩), .int .i64 j] w' fun r w'' => r = .returned (.int .i64 0) ∧ ∃ o', Sole o' w'' b (mkW (whC mr) (conN (j + 1)) [] (newSlot 1)) ∧ Fr 1 o w' o' w'') := fun j o b w' hj h => by
    obtain ⟨_, _, h⟩ := h
    obtain ⟨c1, c2⟩ := connect_whole mr j hj
    refine (connect_left h j).mono ?_
    rintro r w'' ⟨e, o', x, y, h1, h2⟩
    rw [c1] at h1
    rw [c2] at e
    exact ⟨e, o', ⟨x, y, h1⟩, h2⟩
  have kF : Hid (∀ (j : Nat) o b w', j < k → Sole o w' b (mkW (whC mr) (conN 4) (wl body 0 j) (newSlot 1)) → Calls Try.prog 29 #[.pointer (some ⟨b, 0, none⟩), .int .i64 ((j : Int) % 4), .int .i64 (1 + (j : Int)), .string (body j), .int .i64 (1 + (P : Int))] w' fun r w'' => r = .returned (.bool true) ∧ ∃ o', Sole o' w'' b (mkW (whC mr) (conN 4) (wl body 0 (j + 1)) (newSlot 1)) ∧ Fr 1 o w' o' w'') := fun j o b w' hj h => fed_whole mr j (by omega) hbd P (by omega) h
  have kB : Hid (∀ o b w', Sole o w' b (mkW (whC mr) (conN 4) (wl body 0 k) (newSlot 1)) → Calls Try.prog 31 #[.pointer (some ⟨b, 0, none⟩)] w' fun r w'' => ∃ a c, r = .returned (.slice a k c) ∧ Below w'.heap.size w' w'') := fun o b w' h => by
    obtain ⟨_, _, h⟩ := h
    refine (backlog_any h (by show (wl body 0 k).length ≤ _; rw [wl_length]; omega)).mono ?_
    rintro r w'' ⟨v, e, ow, hb⟩
    obtain ⟨a, c, hv, -, -⟩ := own_slice ow
    rw [waits_whole] at hv
    exact ⟨a, c, by rw [e, hv], hb⟩
  obtain ⟨I, hI⟩ : ∃ I : Nat → PM → Prop, ∀ i M, (SInv mr body k i M ∧ M.Fit (20000 + 2001 * i)) ↔ I i M := ⟨_, fun _ _ => Iff.rfl⟩
  have kS : Hid (∀ (i : Nat) o b w' M (t : ByteArray), i < k → t.size ≤ 1000 → I i M → Sole o w' b M → Calls Try.prog 32 #[.pointer (some ⟨b, 0, none⟩), .int .i64 i, .string (body i), .string t] w' fun r w'' => r = .returned (.bool true) ∧ ∃ o' M', I (i + 1) M' ∧ Sole o' w'' b M' ∧ Fr 1 o w' o' w'') := fun i o b w' M t hi ht hIM h => by
    obtain ⟨i1, i2⟩ := (hI i M).2 hIM
    refine (serves_any hi hk12 t ht (by omega) i1 i2 h).mono ?_
    rintro r w'' ⟨e, o', M', j1, j2, j3, j4⟩
    exact ⟨e, o', M', (hI _ _).1 ⟨j1, j2.mono (by omega)⟩, j3, j4⟩
  have kE : Hid (∀ o b w' M, I k M → Sole o w' b M → Calls Try.prog 31 #[.pointer (some ⟨b, 0, none⟩)] w' fun r w'' => ∃ a c, r = .returned (.slice a 0 c) ∧ Below w'.heap.size w' w'') := fun o b w' M hIM h => by
    obtain ⟨i1, i2⟩ := (hI k M).2 hIM
    have hr := i1.req (Nat.le_refl _)
    obtain ⟨_, _, h⟩ := h
    refine (backlog_any h (by rw [hr]; exact Nat.zero_le _)).mono ?_
    rintro r w'' ⟨v, e, ow, hb⟩
    obtain ⟨a, c, hv, -, -⟩ := own_slice ow
    have : M.waits.length = 0 := by unfold PM.waits; rw [hr]; rfl
    rw [this] at hv
    exact ⟨a, c, by rw [e, hv], hb⟩
  have hI0 : I 0 (mkW (whC mr) (conN 4) (wl body 0 k) (newSlot 1)) := (hI _ _).1 ⟨⟨conN 4, .inl rfl⟩, fit_whole mr k hk12 hbd⟩
  obtain ⟨A, hA⟩ : ∃ A : Nat → PM, ∀ j : Nat, mkW (whC mr) (conN j) [] (newSlot 1) = A j := ⟨_, fun _ => rfl⟩
  obtain ⟨F, hF⟩ : ∃ F : Nat → PM, ∀ j : Nat, mkW (whC mr) (conN 4) (wl body 0 j) (newSlot 1) = F j := ⟨_, fun _ => rfl⟩
  have hAF : A 4 = F 0 := by rw [← hA, ← hF]; rfl
  simp only [hA] at kO kC
  simp only [hF] at kF kB hI0
  clear hA hF hI hbd
  have cl0 : Clean noK w := fun _ _ => rfl
  go_enter Try.func6, Try.ntmps6
  go_wp2_with fail
  refine (q2.out _).mono ?_
  rintro e w1 ⟨rfl, rfl⟩
  go_wp2_with fail
  refine (kO.out _ _ cl0).mono ?_
  rintro e w2 ⟨b, o2, rfl, s2, fr2⟩
  clear kO q2
  rcases hkd with ⟨hgt, rfl⟩ | ⟨hgt, rfl⟩
  · have hgI : (nX : Int) > 12 := by omega
    go_wp2
    go_loopw [11] (fun i w' => ∃ j : Nat, j ≤ 4 ∧ i = .int .i64 j ∧ ∃ o', Sole o' w' b (A j) ∧ Fr 1 noK w1 o' w') (fun i _ => 4 - (intOf i).toNat)
    case atStart => exact ⟨0, by omega, rfl, o2, s2, fr2⟩
    case round =>
      obtain ⟨j, hj, rfl, o3, s3, fr3⟩ := hrel
      by_cases hlt : j < 4
      · have hI : (j : Int) < 4 := by omega
        have kk : Hid (∀ o w', Sole o w' b (A j) → Calls Try.prog 24 #[.pointer (some ⟨b, 0, none⟩), .int .i64 j] w' fun r w'' => r = .returned (.int .i64 0) ∧ ∃ o', Sole o' w'' b (A (j + 1)) ∧ Fr 1 o w' o' w'') := fun o w' => kC.out j o b w' hlt
        go_wp2_with fail
        refine (kk.out _ _ s3).mono ?_
        rintro e w4 ⟨rfl, o4, s4, fr4⟩
        go_wp2
        refine ⟨⟨j + 1, by omega, ?_, o4, s4, fr3.trans fr4⟩, ?_⟩
        · congr 1
        · simp only [intOf]
          omega
      · have hI : ¬ (j : Int) < 4 := by omega
        rw [show j = 4 by omega, hAF] at s3
        clear kC hAF s2 fr2
        go_wp2
        go_loopw [13] (fun i w' => ∃ j : Nat, j ≤ 12 ∧ i = .int .i64 j ∧ ∃ o', Sole o' w' b (F j) ∧ Fr 1 noK w1 o' w') (fun i _ => 12 - (intOf i).toNat)
        case atStart => exact ⟨0, by omega, rfl, o3, s3, fr3⟩
        case round =>
          clear hlt hI hj
          obtain ⟨j, hj, rfl, o5, s5, fr5⟩ := hrel
          clear s3 fr3
          by_cases hlt : j < 12
          · obtain ⟨bb, off, rfl, hcell⟩ : ∃ bb off, aX = some ⟨bb, off, none⟩ ∧ ∀ o' w', Fr 1 noK w1 o' w' → w'.cell? ⟨bb, off + j, none⟩ = some (.string (X j)) := by
              rcases hX with e | ⟨bb, off, e, hbl, hc⟩
              · omega
              · exact ⟨bb, off, e, fun o' w' hf => by rw [World.cell?_of_block (hf.block bb hbl (by simp [noK]))]; exact hc j (by omega)⟩
            have hI : (j : Int) < 12 := by omega
            have hjX : (j : Int) < nX := by omega
            have kk : Hid (∀ o w', Sole o w' b (F j) → Calls Try.prog 29 #[.pointer (some ⟨b, 0, none⟩), .int .i64 ((j : Int) % 4), .int .i64 (1 + (j : Int)), .string (body j), .int .i64 (1 + (P : Int))] w' fun r w'' => r = .returned (.bool true) ∧ ∃ o', Sole o' w'' b (F (j + 1)) ∧ Fr 1 o w' o' w'') := fun o w' => kF.out j o b w' hlt
            have c5 := hcell _ _ fr5
            go_wp2_with fail
            refine (kSh.out _ _).mono ?_
            rintro e w6 ⟨rfl, rfl⟩
            go_wp2_with fail
            refine (q1.out _).mono ?_
            rintro e w7 ⟨rfl, rfl⟩
            clear c5
            go_wp2_with fail
            refine (kk.out _ _ s5).mono ?_
            rintro e w8 ⟨rfl, o8, s8, fr8⟩
            go_wp2
            refine ⟨⟨j + 1, by omega, ?_, o8, s8, fr5.trans fr8⟩, ?_⟩
            · congr 1
            · simp only [intOf]
              omega
          · have hI : ¬ (j : Int) < 12 := by omega
            rw [show j = 12 by omega] at s5
            clear kF q1
            go_wp2_with fail
            refine (kB.out _ _ _ s5).mono ?_
            rintro e w6 ⟨la, lc, rfl, hb6⟩
            have s6 := s5.below hb6
            have fr6 := fr5.below hb6
            clear s5 fr5 kB hb6
            go_wp2
            go_loopw [16] (fun i w' => ∃ j : Nat, j ≤ 12 ∧ i = .int .i64 j ∧ ∃ o' M, I j M ∧ Sole o' w' b M ∧ Fr 1 noK w1 o' w') (fun i _ => 12 - (intOf i).toNat)
            case atStart => exact ⟨0, by omega, rfl, o5, _, hI0, s6, fr6⟩
            case round =>
              clear hlt hI hj hI0
              obtain ⟨j, hj, rfl, o8, M8, hIM, s8, fr8⟩ := hrel
              clear s6 fr6
              by_cases hlt : j < 12
              · obtain ⟨bb, off, rfl, hcell⟩ : ∃ bb off, aX = some ⟨bb, off, none⟩ ∧ ∀ o' w', Fr 1 noK w1 o' w' → w'.cell? ⟨bb, off + j, none⟩ = some (.string (X j)) := by
                  rcases hX with e | ⟨bb, off, e, hbl, hc⟩
                  · omega
                  · exact ⟨bb, off, e, fun o' w' hf => by rw [World.cell?_of_block (hf.block bb hbl (by simp [noK]))]; exact hc j (by omega)⟩
                have hI : (j : Int) < 12 := by omega
                have hjX : (j : Int) < nX := by omega
                have ks : Hid (∀ o w' M (t : ByteArray), t.size ≤ 1000 → I j M → Sole o w' b M → Calls Try.prog 32 #[.pointer (some ⟨b, 0, none⟩), .int .i64 j, .string (body j), .string t] w' fun r w'' => r = .returned (.bool true) ∧ ∃ o' M', I (j + 1) M' ∧ Sole o' w'' b M' ∧ Fr 1 o w' o' w'') := fun o w' M t => kS.out j o b w' M t hlt
                have c8 := hcell _ _ fr8
                by_cases hy : j < nY
                · obtain ⟨bb2, off2, rfl, hcell2⟩ : ∃ bb off, aY = some ⟨bb, off, none⟩ ∧ ∀ o' w', Fr 1 noK w1 o' w' → w'.cell? ⟨bb, off + j, none⟩ = some (.string (Y j)) := by
                    rcases hY with e | ⟨bb, off, e, hbl, hc⟩
                    · omega
                    · exact ⟨bb, off, e, fun o' w' hf => by rw [World.cell?_of_block (hf.block bb hbl (by simp [noK]))]; exact hc j (by omega)⟩
                  have hyI : (j : Int) < nY := by omega
                  have y8 := hcell2 _ _ fr8
                  go_wp2_with fail
                  refine (kSa.out _ _).mono ?_
                  rintro e wa ⟨ans, hans, rfl, rfl⟩
                  clear y8
                  go_wp2_with fail
                  refine (kSh.out _ _).mono ?_
                  rintro e wb ⟨rfl, rfl⟩
                  clear c8
                  go_wp2_with fail
                  refine (ks.out _ _ _ ans hans hIM s8).mono ?_
                  rintro e w9 ⟨rfl, o9, M9, i9, s9, fr9⟩
                  go_wp2
                  refine ⟨⟨j + 1, by omega, ?_, o9, M9, i9, s9, fr8.trans fr9⟩, ?_⟩
                  · congr 1
                  · simp only [intOf]
                    omega
                · have hyI : ¬ (j : Int) < nY := by omega
                  go_wp2_with fail
                  refine (kSh.out _ _).mono ?_
                  rintro e wb ⟨rfl, rfl⟩
                  clear c8
                  go_wp2_with fail
                  refine (ks.out _ _ _ ⟨#[]⟩ (by decide) hIM s8).mono ?_
                  rintro e w9 ⟨rfl, o9, M9, i9, s9, fr9⟩
                  go_wp2
                  refine ⟨⟨j + 1, by omega, ?_, o9, M9, i9, s9, fr8.trans fr9⟩, ?_⟩
                  · congr 1
                  · simp only [intOf]
                    omega
              · have hI : ¬ (j : Int) < 12 := by omega
                rw [show j = 12 by omega] at hIM
                clear kS
                go_wp2_with fail
                refine (kE.out _ _ _ _ hIM s8).mono ?_
                rintro e w9 ⟨la, lc, rfl, hb9⟩
                have fr9 := fr8.below hb9
                go_wp2
                go_ret
                exact ⟨rfl, fr9.toBelow _ (Nat.le_refl _) (fun g hg => by simp [noK])⟩
  · have hgI : ¬ (k : Int) > 12 := by omega
    go_wp2
    go_loopw [11] (fun i w' => ∃ j : Nat, j ≤ 4 ∧ i = .int .i64 j ∧ ∃ o', Sole o' w' b (A j) ∧ Fr 1 noK w1 o' w') (fun i _ => 4 - (intOf i).toNat)
    case atStart => exact ⟨0, by omega, rfl, o2, s2, fr2⟩
    case round =>
      obtain ⟨j, hj, rfl, o3, s3, fr3⟩ := hrel
      by_cases hlt : j < 4
      · have hI : (j : Int) < 4 := by omega
        have kk : Hid (∀ o w', Sole o w' b (A j) → Calls Try.prog 24 #[.pointer (some ⟨b, 0, none⟩), .int .i64 j] w' fun r w'' => r = .returned (.int .i64 0) ∧ ∃ o', Sole o' w'' b (A (j + 1)) ∧ Fr 1 o w' o' w'') := fun o w' => kC.out j o b w' hlt
        go_wp2_with fail
        refine (kk.out _ _ s3).mono ?_
        rintro e w4 ⟨rfl, o4, s4, fr4⟩
        go_wp2
        refine ⟨⟨j + 1, by omega, ?_, o4, s4, fr3.trans fr4⟩, ?_⟩
        · congr 1
        · simp only [intOf]
          omega
      · have hI : ¬ (j : Int) < 4 := by omega
        rw [show j = 4 by omega, hAF] at s3
        clear kC hAF s2 fr2
        go_wp2
        go_loopw [13] (fun i w' => ∃ j : Nat, j ≤ k ∧ i = .int .i64 j ∧ ∃ o', Sole o' w' b (F j) ∧ Fr 1 noK w1 o' w') (fun i _ => k - (intOf i).toNat)
        case atStart => exact ⟨0, by omega, rfl, o3, s3, fr3⟩
        case round =>
          clear hlt hI hj
          obtain ⟨j, hj, rfl, o5, s5, fr5⟩ := hrel
          clear s3 fr3
          by_cases hlt : j < k
          · obtain ⟨bb, off, rfl, hcell⟩ : ∃ bb off, aX = some ⟨bb, off, none⟩ ∧ ∀ o' w', Fr 1 noK w1 o' w' → w'.cell? ⟨bb, off + j, none⟩ = some (.string (X j)) := by
              rcases hX with e | ⟨bb, off, e, hbl, hc⟩
              · omega
              · exact ⟨bb, off, e, fun o' w' hf => by rw [World.cell?_of_block (hf.block bb hbl (by simp [noK]))]; exact hc j (by omega)⟩
            have hI : (j : Int) < k := by omega
            have kk : Hid (∀ o w', Sole o w' b (F j) → Calls Try.prog 29 #[.pointer (some ⟨b, 0, none⟩), .int .i64 ((j : Int) % 4), .int .i64 (1 + (j : Int)), .string (body j), .int .i64 (1 + (P : Int))] w' fun r w'' => r = .returned (.bool true) ∧ ∃ o', Sole o' w'' b (F (j + 1)) ∧ Fr 1 o w' o' w'') := fun o w' => kF.out j o b w' hlt
            have c5 := hcell _ _ fr5
            go_wp2_with fail
            refine (kSh.out _ _).mono ?_
            rintro e w6 ⟨rfl, rfl⟩
            go_wp2_with fail
            refine (q1.out _).mono ?_
            rintro e w7 ⟨rfl, rfl⟩
            clear c5
            go_wp2_with fail
            refine (kk.out _ _ s5).mono ?_
            rintro e w8 ⟨rfl, o8, s8, fr8⟩
            go_wp2
            refine ⟨⟨j + 1, by omega, ?_, o8, s8, fr5.trans fr8⟩, ?_⟩
            · congr 1
            · simp only [intOf]
              omega
          · have hI : ¬ (j : Int) < k := by omega
            rw [show j = k by omega] at s5
            clear kF q1
            go_wp2_with fail
            refine (kB.out _ _ _ s5).mono ?_
            rintro e w6 ⟨la, lc, rfl, hb6⟩
            have s6 := s5.below hb6
            have fr6 := fr5.below hb6
            clear s5 fr5 kB hb6
            go_wp2
            go_loopw [16] (fun i w' => ∃ j : Nat, j ≤ k ∧ i = .int .i64 j ∧ ∃ o' M, I j M ∧ Sole o' w' b M ∧ Fr 1 noK w1 o' w') (fun i _ => k - (intOf i).toNat)
            case atStart => exact ⟨0, by omega, rfl, o5, _, hI0, s6, fr6⟩
            case round =>
              clear hlt hI hj hI0
              obtain ⟨j, hj, rfl, o8, M8, hIM, s8, fr8⟩ := hrel
              clear s6 fr6
              by_cases hlt : j < k
              · obtain ⟨bb, off, rfl, hcell⟩ : ∃ bb off, aX = some ⟨bb, off, none⟩ ∧ ∀ o' w', Fr 1 noK w1 o' w' → w'.cell? ⟨bb, off + j, none⟩ = some (.string (X j)) := by
                  rcases hX with e | ⟨bb, off, e, hbl, hc⟩
                  · omega
                  · exact ⟨bb, off, e, fun o' w' hf => by rw [World.cell?_of_block (hf.block bb hbl (by simp [noK]))]; exact hc j (by omega)⟩
                have hI : (j : Int) < k := by omega
                have ks : Hid (∀ o w' M (t : ByteArray), t.size ≤ 1000 → I j M → Sole o w' b M → Calls Try.prog 32 #[.pointer (some ⟨b, 0, none⟩), .int .i64 j, .string (body j), .string t] w' fun r w'' => r = .returned (.bool true) ∧ ∃ o' M', I (j + 1) M' ∧ Sole o' w'' b M' ∧ Fr 1 o w' o' w'') := fun o w' M t => kS.out j o b w' M t hlt
                have c8 := hcell _ _ fr8
                by_cases hy : j < nY
                · obtain ⟨bb2, off2, rfl, hcell2⟩ : ∃ bb off, aY = some ⟨bb, off, none⟩ ∧ ∀ o' w', Fr 1 noK w1 o' w' → w'.cell? ⟨bb, off + j, none⟩ = some (.string (Y j)) := by
                    rcases hY with e | ⟨bb, off, e, hbl, hc⟩
                    · omega
                    · exact ⟨bb, off, e, fun o' w' hf => by rw [World.cell?_of_block (hf.block bb hbl (by simp [noK]))]; exact hc j (by omega)⟩
                  have hyI : (j : Int) < nY := by omega
                  have y8 := hcell2 _ _ fr8
                  go_wp2_with fail
                  refine (kSa.out _ _).mono ?_
                  rintro e wa ⟨ans, hans, rfl, rfl⟩
                  clear y8
                  go_wp2_with fail
                  refine (kSh.out _ _).mono ?_
                  rintro e wb ⟨rfl, rfl⟩
                  clear c8
                  go_wp2_with fail
                  refine (ks.out _ _ _ ans hans hIM s8).mono ?_
                  rintro e w9 ⟨rfl, o9, M9, i9, s9, fr9⟩
                  go_wp2
                  refine ⟨⟨j + 1, by omega, ?_, o9, M9, i9, s9, fr8.trans fr9⟩, ?_⟩
                  · congr 1
                  · simp only [intOf]
                    omega
                · have hyI : ¬ (j : Int) < nY := by omega
                  go_wp2_with fail
                  refine (kSh.out _ _).mono ?_
                  rintro e wb ⟨rfl, rfl⟩
                  clear c8
                  go_wp2_with fail
                  refine (ks.out _ _ _ ⟨#[]⟩ (by decide) hIM s8).mono ?_
                  rintro e w9 ⟨rfl, o9, M9, i9, s9, fr9⟩
                  go_wp2
                  refine ⟨⟨j + 1, by omega, ?_, o9, M9, i9, s9, fr8.trans fr9⟩, ?_⟩
                  · congr 1
                  · simp only [intOf]
                    omega
              · have hI : ¬ (j : Int) < k := by omega
                rw [show j = k by omega] at hIM
                clear kS
                go_wp2_with fail
                refine (kE.out _ _ _ _ hIM s8).mono ?_
                rintro e w9 ⟨la, lc, rfl, hb9⟩
                have fr9 := fr8.below hb9
                go_wp2
                go_ret
                exact ⟨rfl, fr9.toBelow _ (Nat.le_refl _) (fun g hg => by simp [noK])⟩
end Go.Proofs.Ytlafkpaljibonaa

namespace Go.Proofs.Ytlafkpaljibonaa.whole
open Go.ChangeShapes Go.WideShapes Go.ChangeAt Go.RowKit Go.Deep

set_option maxRecDepth 100000 in
theorem own : ownKnob Try.prog.godebug = none := by kernel_rfl
set_option maxRecDepth 100000 in
theorem laidOut : laidOutB Try.prog = true := by kernel_rfl
set_option maxRecDepth 100000 in
theorem cellsStr : Try.prog.cellsOf 9 = 1 := by kernel_rfl

set_option maxRecDepth 100000 in
theorem wf_bd {n : Int} (h : (Lit.int .i64 n).wf = true) : -9223372036854775808 ≤ n ∧ n ≤ 9223372036854775807 := by
  simpa [Lit.wf, IntKind.min, IntKind.max, IntKind.signed, IntKind.bits] using h

set_option maxRecDepth 100000 in
theorem strs_of {H : Type} {enc : TypeId × Value → H} {W : World} {a : Option Addr} {len cap : Nat} {d : DataW H} {p : List MemPlace}
    (h : DataW.Trod enc Try.prog W 0 (fun _ => true) true 67 (.slice a len cap) d p) : (∃ R, IsStrs W a len R) ∧ len ≤ 9223372036854775807 := by
  obtain ⟨fuel, hf⟩ := h
  rcases open_slice Try.underlying67 hf with ⟨hcs, _⟩ | ⟨x, l, c, m, n, D, Pl, hcs, _, hl, hm, hmm, _, hx⟩
  · simp [Value.cells] at hcs
    obtain ⟨rfl, rfl, rfl⟩ := hcs
    exact ⟨⟨fun _ => ByteArray.empty, .inl rfl⟩, by omega⟩
  · simp [Value.cells] at hcs
    obtain ⟨rfl, rfl, rfl⟩ := hcs
    have hlen : len ≤ 9223372036854775807 := by unfold maxLen at hm; omega
    refine ⟨?_, hlen⟩
    by_cases h0 : len = 0
    · exact ⟨fun _ => ByteArray.empty, .inl h0⟩
    · have hle : len ≤ m := by rw [hmm]; split <;> omega
      rw [cellsStr] at hx
      have each : ∀ k, k < len → ∃ r : ByteArray, W.cell? ((x.add (k * 1)).add 0) = some (.string r) := by
        intro k hk
        obtain ⟨cs, h1, h2⟩ := hx k (by omega)
        obtain ⟨_, hlc, hcell⟩ := World.cells?_some h1
        match cs, hlc with
        | [v0], _ =>
          obtain ⟨c', z2, -, wc⟩ := DataW.trod_string Try.underlying9 h2
          simp at z2
          subst z2
          have e0 := hcell 0 (by omega)
          exact ⟨c', by simpa using e0⟩
      obtain ⟨R, hR⟩ := choose_lt each
      refine ⟨R, .inr ?_⟩
      obtain ⟨b, off, spot⟩ := x
      have hc := hR 0 (by omega)
      have hspot : spot = none := by simpa [Addr.add] using World.cell?_spot hc
      subst hspot
      have hadd : ∀ i j : Nat, ((⟨b, i, none⟩ : Addr).add j) = ⟨b, i + j, none⟩ := fun i j => by unfold Addr.add; split <;> simp_all
      refine ⟨b, off, rfl, ?_, ?_⟩
      · have := World.block_lt_of_cell? _ _ hc
        rw [hadd, hadd] at this
        exact this
      · intro k hk
        have g0 := hR k hk
        rw [hadd, hadd, Nat.mul_one, Nat.add_zero] at g0
        exact g0

set_option maxRecDepth 100000 in
theorem lifted (os : Os) (started : os.Started) (H : Type) (enc : TypeId × Value → H) :
    ReturnsInHanded {} Try.checked os 6 .any (Rows.wholeSpec.pre6 enc Try.prog Try.f6 Rows.wholeRow.domain false) (Rows.wholeSpec.post enc Try.prog Try.f6 false true false false) := by
  refine returnsInHanded_of_change (C := Try.checked) own started (by kernel_rfl) Try.func6
    (ChangeSpec.witness6 (enc := enc) (C := Try.checked) false ⟨#[], #[.slice none 0 0, .slice none 0 0, .int .i64 0, .int .i64 0], []⟩ 8 (by kernel_rfl) (by kernel_rfl) (by kernel_rfl) (by kernel_rfl)) ?_
  intro W base args ds gs before hval0 hW hcnd _
  have hval : ∀ (j : Nat) t v, Try.f6.params[j]? = some t → args[j]? = some v → Value.okWide Try.prog W .any base t v := hval0
  have hW' := hW
  obtain ⟨p, q, hA0, hV, rfl, hfz, hnd⟩ := hW
  have hA : DataW.TrodAll enc Try.prog W 0 (fun _ => true) true Try.f6.params.toList args.toList ds p := hA0
  rw [Try.params6] at hA hval
  obtain ⟨v0, vs0, d0, ds0, p0, q0, hargs, rfl, rfl, h0, r0⟩ := trodAll_cons hA
  obtain ⟨v1, vs1, d1, ds1, p1, q1, rfl, rfl, rfl, h1, r1⟩ := trodAll_cons r0
  obtain ⟨v2, vs2, d2, ds2, p2, q2, rfl, rfl, rfl, h2, r2⟩ := trodAll_cons r1
  obtain ⟨v3, vs3, d3, ds3, p3, q3, rfl, rfl, rfl, h3, r3⟩ := trodAll_cons r2
  obtain ⟨rfl, rfl, rfl⟩ := trodAll_nil r3
  obtain rfl : args = #[v0, v1, v2, v3] := by cases args; simp_all
  obtain ⟨rfl, rfl⟩ := trodVars_none hV
  obtain ⟨a0, len0, cap0, rfl⟩ := okWide_slice Try.underlying67 (hval 0 67 v0 rfl rfl)
  obtain ⟨a1, len1, cap1, rfl⟩ := okWide_slice Try.underlying67 (hval 1 67 v1 rfl rfl)
  have k0 := h0
  have k1 := h1
  have lt0 : ∀ x ∈ p0, x.block < W.heap.size := by obtain ⟨m, hm⟩ := k0; exact DataW.trod_lt m _ _ _ hm
  have lt1 : ∀ x ∈ p1, x.block < W.heap.size := by obtain ⟨m, hm⟩ := k1; exact DataW.trod_lt m _ _ _ hm
  obtain ⟨⟨X, hX⟩, hl0⟩ := strs_of h0
  obtain ⟨⟨Y, hY⟩, hl1⟩ := strs_of h1
  obtain ⟨n2, rfl, rfl, rfl, w2⟩ := open_int Try.underlying3 (hval 2 3 v2 rfl rfl) h2
  obtain ⟨n3, rfl, rfl, rfl, w3⟩ := open_int Try.underlying3 (hval 3 3 v3 rfl rfl) h3
  clear hA0 hval0
  refine (whole_any a0 len0 cap0 X a1 len1 cap1 Y n2 n3 (wf_bd w2) (wf_bd w3) W hX hY hl0 hl1).mono fun e W' ⟨he, bel⟩ => ?_
  subst he
  exact ⟨_, rfl, _, _, _, [], _, [], hW', trodAll_mk1 (shut_bool Try.underlying4 _), (trodAll_cons_mk (Below.trod laidOut (by kernel_rfl) (of_decide_eq_true (by kernel_rfl)) k0 bel lt0) (trodAll_cons_mk (Below.trod laidOut (by kernel_rfl) (of_decide_eq_true (by kernel_rfl)) k1 bel lt1) (trodAll_cons_mk (shut_int Try.underlying3 w2) (trodAll_cons_mk (shut_int Try.underlying3 w3) trodAll_mk0)))), rfl, bel.frame _, fun h => by cases h⟩

set_option maxRecDepth 100000 in
theorem proved : Rows.WholeSaid :=
  OpenClaim.holds_of_wide 6 Try.f6 rfl rfl rfl rfl rfl rfl rfl ⟨rfl, rfl, rfl, rfl, rfl⟩ rfl rfl rfl rfl rfl (by kernel_rfl) Try.func6 (by kernel_rfl)
    (of_decide_eq_true (by kernel_rfl)) (by unfold Func.isWrapper; first | (rw [if_pos (by decide +kernel)]; kernel_rfl) | (rw [if_neg (by decide +kernel)]; exact ⟨rfl, rfl⟩))
    (fun os started H enc _ => lifted os started H enc)
#print axioms proved
end Go.Proofs.Ytlafkpaljibonaa.whole
