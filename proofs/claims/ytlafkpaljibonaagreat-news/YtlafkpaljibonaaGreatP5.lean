import Derived.Test.YtlafkpaljibonaaGreatP4
namespace Go.Proofs.YtlafkpaljibonaaGreat
open Go.RowKit

def inB (n a b : Int) : Bool := decide (a ≤ n) && decide (n ≤ b)

theorem within_in (n a b : Int) (w : World) :
    Calls Tryz.prog 64 #[.int .i64 n, .int .i64 a, .int .i64 b] w fun r w' => r = .returned (.bool (inB n a b)) ∧ w' = w := within_any n a b w

theorem cfg_ok (c : Cfg) : c.ok = (inB c.ch 1 6 && inB c.bl 0 20 && (inB c.mr 0 1000 && inB c.tmo 0 1000) && (!c.dyn || (inB c.mn 1 c.ch && inB c.mx c.mn c.ch))) := by
  rw [Bool.eq_iff_iff]
  simp [Cfg.ok, inB]
  intro _ _ _ _ _ _ _ _
  constructor
  · rintro (h9 | h9)
    · exact .inl h9
    · right; omega
  · rintro (h9 | h9)
    · exact .inl h9
    · right; omega

set_option maxRecDepth 100000 in
set_option maxHeartbeats 4000000 in
theorem mayBe_any (c : Cfg) (w : World) :
    Calls Tryz.prog 29 #[c.val] w fun r w' => r = .returned (.bool c.ok) ∧ Below w.heap.size w w' := by
  rw [cfg_ok]
  obtain ⟨ch, dyn, mn, mx, mr, tmo, bl⟩ := c
  simp only [Cfg.val]
  generalize h1 : inB ch 1 6 = b1
  generalize h2 : inB bl 0 20 = b2
  generalize h3 : inB mr 0 1000 = b3
  generalize h4 : inB tmo 0 1000 = b4
  generalize h5 : inB mn 1 ch = b5
  generalize h6 : inB mx mn ch = b6
  have c1 : Hid (∀ w, Calls Tryz.prog 64 #[.int .i64 ch, .int .i64 1, .int .i64 6] w fun r w' => r = .returned (.bool b1) ∧ w' = w) := fun w => h1 ▸ within_in _ _ _ w
  have c2 : Hid (∀ w, Calls Tryz.prog 64 #[.int .i64 bl, .int .i64 0, .int .i64 20] w fun r w' => r = .returned (.bool b2) ∧ w' = w) := fun w => h2 ▸ within_in _ _ _ w
  have c3 : Hid (∀ w, Calls Tryz.prog 64 #[.int .i64 mr, .int .i64 0, .int .i64 1000] w fun r w' => r = .returned (.bool b3) ∧ w' = w) := fun w => h3 ▸ within_in _ _ _ w
  have c4 : Hid (∀ w, Calls Tryz.prog 64 #[.int .i64 tmo, .int .i64 0, .int .i64 1000] w fun r w' => r = .returned (.bool b4) ∧ w' = w) := fun w => h4 ▸ within_in _ _ _ w
  have c5 : Hid (∀ w, Calls Tryz.prog 64 #[.int .i64 mn, .int .i64 1, .int .i64 ch] w fun r w' => r = .returned (.bool b5) ∧ w' = w) := fun w => h5 ▸ within_in _ _ _ w
  have c6 : Hid (∀ w, Calls Tryz.prog 64 #[.int .i64 mx, .int .i64 mn, .int .i64 ch] w fun r w' => r = .returned (.bool b6) ∧ w' = w) := fun w => h6 ▸ within_in _ _ _ w
  clear h1 h2 h3 h4 h5 h6
  cases b1
  · skip
    go_enter Tryz.func29, Tryz.ntmps29
    go_wp2_with fail
    refine (c1.out _).mono ?_
    rintro e w' ⟨rfl, rfl⟩
    go_wp2
    go_ret
    exact ⟨by simp, (Below.refl _ _).alloc (Nat.le_refl _) _⟩
  · skip
    cases b2
    · skip
      go_enter Tryz.func29, Tryz.ntmps29
      go_wp2_with fail
      refine (c1.out _).mono ?_
      rintro e w' ⟨rfl, rfl⟩
      go_wp2_with fail
      refine (c2.out _).mono ?_
      rintro e w' ⟨rfl, rfl⟩
      go_wp2
      go_ret
      exact ⟨by simp, (Below.refl _ _).alloc (Nat.le_refl _) _⟩
    · skip
      cases b3
      · skip
        go_enter Tryz.func29, Tryz.ntmps29
        go_wp2_with fail
        refine (c1.out _).mono ?_
        rintro e w' ⟨rfl, rfl⟩
        go_wp2_with fail
        refine (c2.out _).mono ?_
        rintro e w' ⟨rfl, rfl⟩
        go_wp2_with fail
        refine (c3.out _).mono ?_
        rintro e w' ⟨rfl, rfl⟩
        go_wp2
        go_ret
        exact ⟨by simp, (Below.refl _ _).alloc (Nat.le_refl _) _⟩
      · skip
        cases b4
        · skip
          go_enter Tryz.func29, Tryz.ntmps29
          go_wp2_with fail
          refine (c1.out _).mono ?_
          rintro e w' ⟨rfl, rfl⟩
          go_wp2_with fail
          refine (c2.out _).mono ?_
          rintro e w' ⟨rfl, rfl⟩
          go_wp2_with fail
          refine (c3.out _).mono ?_
          rintro e w' ⟨rfl, rfl⟩
          go_wp2_with fail
          refine (c4.out _).mono ?_
          rintro e w' ⟨rfl, rfl⟩
          go_wp2
          go_ret
          exact ⟨by simp, (Below.refl _ _).alloc (Nat.le_refl _) _⟩
        · skip
          cases dyn
          · skip
            go_enter Tryz.func29, Tryz.ntmps29
            go_wp2_with fail
            refine (c1.out _).mono ?_
            rintro e w' ⟨rfl, rfl⟩
            go_wp2_with fail
            refine (c2.out _).mono ?_
            rintro e w' ⟨rfl, rfl⟩
            go_wp2_with fail
            refine (c3.out _).mono ?_
            rintro e w' ⟨rfl, rfl⟩
            go_wp2_with fail
            refine (c4.out _).mono ?_
            rintro e w' ⟨rfl, rfl⟩
            go_wp2
            go_ret
            exact ⟨by simp, (Below.refl _ _).alloc (Nat.le_refl _) _⟩
          · skip
            cases b5
            · skip
              go_enter Tryz.func29, Tryz.ntmps29
              go_wp2_with fail
              refine (c1.out _).mono ?_
              rintro e w' ⟨rfl, rfl⟩
              go_wp2_with fail
              refine (c2.out _).mono ?_
              rintro e w' ⟨rfl, rfl⟩
              go_wp2_with fail
              refine (c3.out _).mono ?_
              rintro e w' ⟨rfl, rfl⟩
              go_wp2_with fail
              refine (c4.out _).mono ?_
              rintro e w' ⟨rfl, rfl⟩
              go_wp2_with fail
              refine (c5.out _).mono ?_
              rintro e w' ⟨rfl, rfl⟩
              go_wp2
              go_ret
              exact ⟨by simp, (Below.refl _ _).alloc (Nat.le_refl _) _⟩
            · skip
              cases b6
              · skip
                go_enter Tryz.func29, Tryz.ntmps29
                go_wp2_with fail
                refine (c1.out _).mono ?_
                rintro e w' ⟨rfl, rfl⟩
                go_wp2_with fail
                refine (c2.out _).mono ?_
                rintro e w' ⟨rfl, rfl⟩
                go_wp2_with fail
                refine (c3.out _).mono ?_
                rintro e w' ⟨rfl, rfl⟩
                go_wp2_with fail
                refine (c4.out _).mono ?_
                rintro e w' ⟨rfl, rfl⟩
                go_wp2_with fail
                refine (c5.out _).mono ?_
                rintro e w' ⟨rfl, rfl⟩
                go_wp2_with fail
                refine (c6.out _).mono ?_
                rintro e w' ⟨rfl, rfl⟩
                go_wp2
                go_ret
                exact ⟨by simp, (Below.refl _ _).alloc (Nat.le_refl _) _⟩
              · skip
                go_enter Tryz.func29, Tryz.ntmps29
                go_wp2_with fail
                refine (c1.out _).mono ?_
                rintro e w' ⟨rfl, rfl⟩
                go_wp2_with fail
                refine (c2.out _).mono ?_
                rintro e w' ⟨rfl, rfl⟩
                go_wp2_with fail
                refine (c3.out _).mono ?_
                rintro e w' ⟨rfl, rfl⟩
                go_wp2_with fail
                refine (c4.out _).mono ?_
                rintro e w' ⟨rfl, rfl⟩
                go_wp2_with fail
                refine (c5.out _).mono ?_
                rintro e w' ⟨rfl, rfl⟩
                go_wp2_with fail
                refine (c6.out _).mono ?_
                rintro e w' ⟨rfl, rfl⟩
                go_wp2
                go_ret
                exact ⟨by simp, (Below.refl _ _).alloc (Nat.le_refl _) _⟩
end Go.Proofs.YtlafkpaljibonaaGreat
