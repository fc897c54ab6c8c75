import Derived.Test.YtlafkpaljibonaaJ12
import Derived.Test.YtlafkpaljibonaaJ9
namespace Go.Proofs.Ytlafkpaljibonaa
open Go.RowKit

section
variable {o o' : Nat → Tag} {w w' : World} {b B : Nat} {M : PM} {sv : Nat → Value} {rv : Value}

def Sole (o : Nat → Tag) (w : World) (b : Nat) (m : PM) : Prop := ∃ sv rv, FMem o 1 w b m sv rv
theorem Sole.below (h : Sole o w b M) (hb : Below w.heap.size w w') : Sole o w' b M := by obtain ⟨x, y, h⟩ := h; exact ⟨x, y, h.below hb⟩

theorem sole_feed (h : Sole o w b M) (hf : M.Fit B) (hB : B ≤ 48000000) (n : Int) (s : ByteArray) (hs : s.size ≤ 1000) {M' : PM} (he : M.afterFeed n s = M') (hc : M.chk n = 0) :
    Calls Try.prog 25 #[.pointer (some ⟨b, 0, none⟩), .int .i64 n, .string s] w fun r w' => r = .returned (.int .i64 0) ∧ ∃ o', Sole o' w' b M' ∧ Fr 1 o w o' w' := by
  obtain ⟨_, _, h⟩ := h
  refine (feed_left h (by omega) hf hB n s (by omega)).mono ?_
  rintro r w' ⟨e, o', x, y, h1, h2⟩
  rw [he] at h1
  rw [hc] at e
  exact ⟨e, o', ⟨x, y, h1⟩, h2⟩
theorem sole_tick (h : Sole o w b M) (hf : M.Fit B) (hB : B ≤ 48000000) {M' : PM} (he : M.tick = M') :
    Calls Try.prog 33 #[.pointer (some ⟨b, 0, none⟩)] w fun r w' => r = .returned (.tuple #[]) ∧ ∃ o', Sole o' w' b M' ∧ Fr 1 o w o' w' := by
  obtain ⟨_, _, h⟩ := h
  refine (tick_left h (by omega) hf hB).mono ?_
  rintro r w' ⟨e, o', x, y, h1, h2⟩
  rw [he] at h1
  exact ⟨e, o', ⟨x, y, h1⟩, h2⟩

set_option maxRecDepth 100000 in
set_option maxHeartbeats 4000000 in
/-- 'fed' at these arguments, with a worker that is Idle. -/
theorem fed_late (t T : Int) (h : Sole o w b (mkT (lateC t) T con2 [] (newSlot 2))) (hf : (mkT (lateC t) T con2 [] (newSlot 2)).Fit B) (hB : B ≤ 40000000) :
    Calls Try.prog 29 #[.pointer (some ⟨b, 0, none⟩), .int .i64 2, .int .i64 5, .string ⟨#[120]⟩, .int .i64 1] w fun r w' => r = .returned (.bool true) ∧ ∃ o', Sole o' w' b (mkT (lateC t) T con2 [⟨2, 5, 2, ⟨#[]⟩⟩] (busyS T)) ∧ Fr 1 o w o' w' := by
  have hf1 : (mkT (lateC t) T con2 [⟨2, 5, 0, ⟨#[]⟩⟩] (newSlot 2)).Fit (B + 1000) := by
    have := hf.afterFeed 2 (enc 1 5 ⟨#[1]⟩ (padL 0))
    rw [begin_late] at this
    exact this.mono (by rw [enc_size, padL_length]; show B + (8 + 1 + 0) + 300 ≤ _; omega)
  have hf2 : (mkT (lateC t) T con2 [⟨2, 5, 0, ⟨#[120]⟩⟩] (newSlot 2)).Fit (B + 2000) := by
    have := hf1.afterFeed 2 (enc 5 5 ⟨#[120]⟩ (padL 1))
    rw [in_late] at this
    exact this.mono (by rw [enc_size, padL_length]; show B + 1000 + (8 + 1 + 1) + 300 ≤ _; omega)
  have s1 : (enc 1 5 ⟨#[1]⟩ (padL 0)).size ≤ 1000 := by rw [enc_size, padL_length]; decide
  have s2 : (enc 5 5 ⟨#[120]⟩ (padL 1)).size ≤ 1000 := by rw [enc_size, padL_length]; decide
  have s3 : (enc 5 5 ⟨#[]⟩ (padL 0)).size ≤ 1000 := by rw [enc_size, padL_length]; decide
  have b1 : Hid (∀ w', Calls Try.prog 16 #[.int .i64 1, .int .i64 5, .string ⟨#[1]⟩, .int .i64 0] w' fun r w'' => r = .returned (.string (enc 1 5 ⟨#[1]⟩ (padL 0))) ∧ Below w'.heap.size w' w'') := fun w' => bytes_any 1 5 ⟨#[1]⟩ 0 w' (by omega) (by omega) (by decide) (by omega)
  have b2 : Hid (∀ w', Calls Try.prog 16 #[.int .i64 5, .int .i64 5, .string ⟨#[120]⟩, .int .i64 1] w' fun r w'' => r = .returned (.string (enc 5 5 ⟨#[120]⟩ (padL 1))) ∧ Below w'.heap.size w' w'') := fun w' => bytes_any 5 5 ⟨#[120]⟩ 1 w' (by omega) (by omega) (by decide) (by omega)
  have b3 : Hid (∀ w', Calls Try.prog 16 #[.int .i64 5, .int .i64 5, .string ⟨#[]⟩, .int .i64 0] w' fun r w'' => r = .returned (.string (enc 5 5 ⟨#[]⟩ (padL 0))) ∧ Below w'.heap.size w' w'') := fun w' => bytes_any 5 5 ⟨#[]⟩ 0 w' (by omega) (by omega) (by decide) (by omega)
  have f1 : Hid (∀ o' w', Sole o' w' b (mkT (lateC t) T con2 [] (newSlot 2)) → Calls Try.prog 25 #[.pointer (some ⟨b, 0, none⟩), .int .i64 2, .string (enc 1 5 ⟨#[1]⟩ (padL 0))] w' fun r w'' => r = .returned (.int .i64 0) ∧ ∃ o'', Sole o'' w'' b (mkT (lateC t) T con2 [⟨2, 5, 0, ⟨#[]⟩⟩] (newSlot 2)) ∧ Fr 1 o' w' o'' w'') := fun o' w' h' => sole_feed h' hf (by omega) 2 _ s1 (begin_late t T) rfl
  have f2 : Hid (∀ o' w', Sole o' w' b (mkT (lateC t) T con2 [⟨2, 5, 0, ⟨#[]⟩⟩] (newSlot 2)) → Calls Try.prog 25 #[.pointer (some ⟨b, 0, none⟩), .int .i64 2, .string (enc 5 5 ⟨#[120]⟩ (padL 1))] w' fun r w'' => r = .returned (.int .i64 0) ∧ ∃ o'', Sole o'' w'' b (mkT (lateC t) T con2 [⟨2, 5, 0, ⟨#[120]⟩⟩] (newSlot 2)) ∧ Fr 1 o' w' o'' w'') := fun o' w' h' => sole_feed h' hf1 (by omega) 2 _ s2 (in_late t T) rfl
  have f3 : Hid (∀ o' w', Sole o' w' b (mkT (lateC t) T con2 [⟨2, 5, 0, ⟨#[120]⟩⟩] (newSlot 2)) → Calls Try.prog 25 #[.pointer (some ⟨b, 0, none⟩), .int .i64 2, .string (enc 5 5 ⟨#[]⟩ (padL 0))] w' fun r w'' => r = .returned (.int .i64 0) ∧ ∃ o'', Sole o'' w'' b (mkT (lateC t) T con2 [⟨2, 5, 2, ⟨#[]⟩⟩] (busyS T)) ∧ Fr 1 o' w' o'' w'') := fun o' w' h' => sole_feed h' hf2 (by omega) 2 _ s3 (end_late t T) rfl
  clear hf hf1 hf2 s1 s2 s3
  have hcl : Clean o w := by obtain ⟨_, _, h'⟩ := h; exact h'.clean
  generalize mkT (lateC t) T con2 [] (newSlot 2) = M0 at *
  generalize mkT (lateC t) T con2 [⟨2, 5, 0, ⟨#[]⟩⟩] (newSlot 2) = M1 at *
  generalize mkT (lateC t) T con2 [⟨2, 5, 0, ⟨#[120]⟩⟩] (newSlot 2) = M2 at *
  obtain ⟨M3, h3⟩ : ∃ M3, mkT (lateC t) T con2 [⟨2, 5, 2, ⟨#[]⟩⟩] (busyS T) = M3 := ⟨_, rfl⟩
  rw [h3] at f3 ⊢
  clear h3
  generalize enc 1 5 ⟨#[1]⟩ (padL 0) = E1 at *
  generalize enc 5 5 ⟨#[120]⟩ (padL 1) = E2 at *
  generalize enc 5 5 ⟨#[]⟩ (padL 0) = E3 at *
  go_enter Try.func29, Try.ntmps29
  go_wp2_with fail
  refine (b1.out _).mono ?_
  rintro e w1 ⟨rfl, hb1⟩
  have h1 := h.below hb1
  go_wp2_with fail
  refine (f1.out _ _ h1).mono ?_
  rintro e w2 ⟨rfl, o2, h2, fr2⟩
  go_wp2
  go_loopw [3, 11, 12] (fun bd bx e w' => (bd = .string ⟨#[120]⟩ ∧ e = .int .i64 0 ∧ ∃ o', Sole o' w' b M1 ∧ Fr 1 o w o' w') ∨ (bd = .string ⟨#[]⟩ ∧ e = .int .i64 0 ∧ ∃ o', Sole o' w' b M2 ∧ Fr 1 o w o' w')) (fun bd _ _ _ => match bd with | .string s => s.size | _ => 0)
  case atStart => exact .inl ⟨rfl, rfl, o2, h2, (Fr.of_below hcl hb1).trans fr2⟩
  case round =>
    rcases hrel with ⟨rfl, rfl, o3, h3, fr3⟩ | ⟨rfl, rfl, o3, h3, fr3⟩
    · have ex : (⟨#[120]⟩ : ByteArray).extract 0 1 = ⟨#[120]⟩ := rfl
      have b2x : Hid (∀ w', Calls Try.prog 16 #[.int .i64 5, .int .i64 5, .string ((⟨#[120]⟩ : ByteArray).extract 0 1), .int .i64 1] w' fun r w'' => r = .returned (.string E2) ∧ Below w'.heap.size w' w'') := by rw [ex]; exact b2
      go_wp2_with fail
      refine (b2x.out _).mono ?_
      rintro e w4 ⟨rfl, hb4⟩
      have h4 := h3.below hb4
      go_wp2_with fail
      refine (f2.out _ _ h4).mono ?_
      rintro e w5 ⟨rfl, o5, h5, fr5⟩
      clear b2x
      go_wp2
      refine ⟨.inr ⟨?_, rfl, o5, h5, (fr3.below hb4).trans fr5⟩, ?_⟩
      · rfl
      · decide
    · go_wp2_with fail
      refine (b3.out _).mono ?_
      rintro e w4 ⟨rfl, hb4⟩
      have h4 := h3.below hb4
      go_wp2_with fail
      refine (f3.out _ _ h4).mono ?_
      rintro e w5 ⟨rfl, o5, h5, fr5⟩
      go_wp2
      go_ret
      exact ⟨rfl, o5, h5, (fr3.below hb4).trans fr5⟩
end
end Go.Proofs.Ytlafkpaljibonaa

namespace Go.Proofs.Ytlafkpaljibonaa
open Go.RowKit

section
variable {o : Nat → Tag} {w : World} {b : Nat}

/-- What 'serves' needs of a worker at work: the calls, as they answer here. -/
structure Serve (b : Nat) (M : PM) (j : Nat) (body was answer : ByteArray) (M2 : PM) (old : Bool) (srv snc : Int) : Prop where
  slot : ∀ o w, Sole o w b M → Calls Try.prog 35 #[.pointer (some ⟨b, 0, none⟩), .int .i64 0] w fun r w' => r = .returned (.tuple #[.agg #[.int .i64 3, .bool old, .int .i64 srv, .int .i64 snc, .int .i64 ((j : Int) % 4), .int .i64 (1 + (j : Int))], .int .i64 0]) ∧ Below w.heap.size w w'
  job : ∀ o w, Sole o w b M → Calls Try.prog 59 #[.pointer (some ⟨b, 0, none⟩), .int .i64 0] w fun r w' => r = .returned (.tuple #[.string body, .int .i64 0]) ∧ w' = w
  sent : ∀ o w, Sole o w b M → Calls Try.prog 36 #[.pointer (some ⟨b, 0, none⟩), .int .i64 ((j : Int) % 4)] w fun r w' => r = .returned (.string was) ∧ w' = w
  out : ∀ o w, Sole o w b M → Calls Try.prog 52 #[.pointer (some ⟨b, 0, none⟩), .int .i64 0, .string answer] w fun r w' => r = .returned (.int .i64 0) ∧ ∃ o' M1, Sole o' w' b M1 ∧ Fr 1 o w o' w' ∧
    (∀ o w, Sole o w b M1 → Calls Try.prog 53 #[.pointer (some ⟨b, 0, none⟩), .int .i64 0] w fun r w' => r = .returned (.int .i64 0) ∧ ∃ o', Sole o' w' b M2 ∧ Fr 1 o w o' w')
  now : ∀ o w, Sole o w b M2 → Calls Try.prog 36 #[.pointer (some ⟨b, 0, none⟩), .int .i64 ((j : Int) % 4)] w fun r w' => r = .returned (.string ((was ++ outsB (1 + (j : Int)) answer.size answer) ++ enc 3 (1 + (j : Int)) ⟨#[0]⟩ [])) ∧ w' = w

theorem Sole.clean {M : PM} (h : Sole o w b M) : Clean o w := by obtain ⟨_, _, h⟩ := h; exact h.clean
theorem Sole.setFar {M : PM} (h : Sole o w b M) {g : Nat} (hg : (o g).1 ≠ 1) (j : Nat) (u : Value) : Sole o (w.setCell ⟨g, j, none⟩ u) b M := by
  obtain ⟨x, y, h⟩ := h
  exact ⟨x, y, h.setFar hg j u⟩

set_option maxRecDepth 100000 in
set_option maxHeartbeats 8000000 in
theorem serves_busy {M M2 : PM} {j : Nat} {body was answer : ByteArray} {old : Bool} {srv snc : Int} (S : Serve b M j body was answer M2 old srv snc) (hj : j < 12) (ha : answer.size ≤ 1000) (hwas : was.size ≤ 100000000)
    (h : Sole o w b M) :
    Calls Try.prog 32 #[.pointer (some ⟨b, 0, none⟩), .int .i64 (j : Nat), .string body, .string answer] w fun r w' => r = .returned (.bool true) ∧ ∃ o', Sole o' w' b M2 ∧ Fr 1 o w o' w' := by
  have ko : Hid (∀ w, Calls Try.prog 62 #[.int .i64 (1 + (j : Int)), .string answer] w fun r w' => r = .returned (.string (outsB (1 + (j : Int)) answer.size answer)) ∧ Below w.heap.size w w') := fun w => outs_any (1 + (j : Int)) (by omega) answer ha w
  have kb : Hid (∀ w, Calls Try.prog 16 #[.int .i64 3, .int .i64 (1 + (j : Int)), .string ⟨#[0]⟩, .int .i64 0] w fun r w' => r = .returned (.string (enc 3 (1 + (j : Int)) ⟨#[0]⟩ [])) ∧ Below w.heap.size w w') := fun w => by
    have := bytes_any 3 (1 + (j : Int)) ⟨#[0]⟩ 0 w (by omega) (by omega) (by decide) (by omega)
    exact this
  have hos := outsB_size (1 + (j : Int)) answer.size answer
  have hes : (enc 3 (1 + (j : Int)) ⟨#[0]⟩ []).size = 9 := by rw [enc_size]; rfl
  have hcat1 : ¬ (9223372036854775807 < was.size + (outsB (1 + (j : Int)) answer.size answer).size) := by omega
  have hcat2 : ¬ (9223372036854775807 < (was ++ outsB (1 + (j : Int)) answer.size answer).size + (enc 3 (1 + (j : Int)) ⟨#[0]⟩ []).size) := by rw [ByteArray.size_append]; omega
  obtain ⟨S1, S2, S3, S4, S5⟩ := S
  have HS1 : Hid _ := S1
  have HS2 : Hid _ := S2
  have HS3 : Hid _ := S3
  have HS4 : Hid _ := S4
  have HS5 : Hid _ := S5
  clear S1 S2 S3 S4 S5 hos hes
  generalize outsB (1 + (j : Int)) answer.size answer = outv at *
  generalize enc 3 (1 + (j : Int)) ⟨#[0]⟩ [] = endv at *
  go_enter Try.func32, Try.ntmps32
  go_wp2_with fail
  refine (HS1.out _ _ h).mono ?_
  rintro e w1 ⟨rfl, hb1⟩
  have h1 := h.below hb1
  have x0 := Blk.made w1 58 [.int .i64 3, .bool old, .int .i64 srv, .int .i64 snc, .int .i64 ((j : Int) % 4), .int .i64 (1 + (j : Int))]
  have hcl := h1.clean _ (Nat.le_refl w1.heap.size)
  have hbA : Below w1.heap.size w1 (w1.alloc (.cells #[.int .i64 3, .bool old, .int .i64 srv, .int .i64 snc, .int .i64 ((j : Int) % 4), .int .i64 (1 + (j : Int))] 58)) := (Below.refl _ _).alloc (Nat.le_refl _) _
  have h2 := h1.below hbA
  have frA := ((Fr.of_below (q := 1) h.clean hb1).below hbA)
  have hN := hb1.size
  go_wp2_with fail
  have x1 : Blk (w1.alloc (.cells #[.int .i64 3, .bool old, .int .i64 srv, .int .i64 snc, .int .i64 ((j : Int) % 4), .int .i64 (1 + (j : Int))] 58)) w1.heap.size 58 [.int .i64 3, .bool old, .int .i64 srv, .int .i64 snc, .int .i64 ((j : Int) % 4), .int .i64 (1 + (j : Int))] := x0
  clear x0 hbA
  generalize w1.alloc (.cells #[.int .i64 3, .bool old, .int .i64 srv, .int .i64 snc, .int .i64 ((j : Int) % 4), .int .i64 (1 + (j : Int))] 58) = wA at *
  have hfar : (o w1.heap.size).1 ≠ 1 := by rw [hcl]; exact fun e => by cases e
  generalize w1.heap.size = N at *
  clear h h1 hb1 hcl
  refine (HS3.out _ _ h2).mono ?_
  rintro e w20 ⟨rfl, rfl⟩
  go_wp2_with fail
  refine (HS1.out _ _ h2).mono ?_
  rintro e w4a ⟨rfl, hb4⟩
  have x4a := x1.below hb4
  have h4a := h2.below hb4
  have fr4a := frA.below hb4
  have y0 := x4a.cell (k := 0) (u := .int .i64 3) rfl
  have y1 := x4a.cell (k := 1) (u := .bool old) rfl
  have y2 := x4a.cell (k := 2) (u := .int .i64 srv) rfl
  have y3 := x4a.cell (k := 3) (u := .int .i64 snc) rfl
  have y4 := x4a.cell (k := 4) (u := .int .i64 ((j : Int) % 4)) rfl
  have y5 := x4a.cell (k := 5) (u := .int .i64 (1 + (j : Int))) rfl
  have fz := x4a.frozen
  have h4 := ((((((h4a.setFar hfar 0 (.int .i64 3)).setFar hfar 1 (.bool old)).setFar hfar 2 (.int .i64 srv)).setFar hfar 3 (.int .i64 snc)).setFar hfar 4 (.int .i64 ((j : Int) % 4))).setFar hfar 5 (.int .i64 (1 + (j : Int))))
  have fr4 := ((((((fr4a.setNew hN 0 (.int .i64 3)).setNew hN 1 (.bool old)).setNew hN 2 (.int .i64 srv)).setNew hN 3 (.int .i64 snc)).setNew hN 4 (.int .i64 ((j : Int) % 4))).setNew hN 5 (.int .i64 (1 + (j : Int))))
  have x4 : Blk ((((((w4a.setCell ⟨N, 0, none⟩ (.int .i64 3)).setCell ⟨N, 1, none⟩ (.bool old)).setCell ⟨N, 2, none⟩ (.int .i64 srv)).setCell ⟨N, 3, none⟩ (.int .i64 snc)).setCell ⟨N, 4, none⟩ (.int .i64 ((j : Int) % 4))).setCell ⟨N, 5, none⟩ (.int .i64 (1 + (j : Int)))) N 58 [.int .i64 3, .bool old, .int .i64 srv, .int .i64 snc, .int .i64 ((j : Int) % 4), .int .i64 (1 + (j : Int))] := ((((((x4a.set 0 (.int .i64 3)).set 1 (.bool old)).set 2 (.int .i64 srv)).set 3 (.int .i64 snc)).set 4 (.int .i64 ((j : Int) % 4))).set 5 (.int .i64 (1 + (j : Int))))
  clear x1 h2 frA x4a h4a fr4a hb4
  go_wp2_with fail
  clear y0 y1 y2 y3 y4 y5 fz
  generalize ((((((w4a.setCell ⟨N, 0, none⟩ (.int .i64 3)).setCell ⟨N, 1, none⟩ (.bool old)).setCell ⟨N, 2, none⟩ (.int .i64 srv)).setCell ⟨N, 3, none⟩ (.int .i64 snc)).setCell ⟨N, 4, none⟩ (.int .i64 ((j : Int) % 4))).setCell ⟨N, 5, none⟩ (.int .i64 (1 + (j : Int)))) = w4 at *
  refine (HS2.out _ _ h4).mono ?_
  rintro e w5 ⟨rfl, rfl⟩
  have y0 := x4.cell (k := 0) (u := .int .i64 3) rfl
  have y4 := x4.cell (k := 4) (u := .int .i64 ((j : Int) % 4)) rfl
  have y5 := x4.cell (k := 5) (u := .int .i64 (1 + (j : Int))) rfl
  go_wp2_with fail
  refine (HS4.out _ _ h4).mono ?_
  rintro e w6 ⟨rfl, o6, M1, h6, fr6, KF⟩
  have HKF : Hid _ := KF
  clear KF y0 y4 y5 h4 x4
  have frB := fr4.trans fr6
  clear fr4 fr6
  go_wp2_with fail
  refine (HKF.out _ _ h6).mono ?_
  rintro e w7 ⟨rfl, o7, h7, fr7⟩
  have frC := frB.trans fr7
  go_wp2_with fail
  refine (HS5.out _ _ h7).mono ?_
  rintro e w8 ⟨rfl, rfl⟩
  go_wp2_with fail
  refine (ko.out _).mono ?_
  rintro e w9 ⟨rfl, hb9⟩
  go_wp2_with fail
  refine (kb.out _).mono ?_
  rintro e w10 ⟨rfl, hb10⟩
  go_wp2
  go_ret
  exact ⟨by simp, o7, (h7.below hb9).below hb10, (frC.below hb9).below hb10⟩

set_option maxRecDepth 100000 in
set_option maxHeartbeats 8000000 in
theorem serves_start {M0 M M2 : PM} {j : Nat} {body was answer : ByteArray} {old : Bool} {srv snc : Int} (S : Serve b M j body was answer M2 old srv snc) (hj : j < 12) (ha : answer.size ≤ 1000) (hwas : was.size ≤ 100000000)
    (K0 : Hid (∀ o w, Sole o w b M0 → Calls Try.prog 35 #[.pointer (some ⟨b, 0, none⟩), .int .i64 0] w fun r w' => r = .returned (.tuple #[.agg #[.int .i64 1, .bool false, .int .i64 0, .int .i64 0, .int .i64 (-1), .int .i64 0], .int .i64 0]) ∧ Below w.heap.size w w')) (K1 : Hid (∀ o w, Sole o w b M0 → Calls Try.prog 34 #[.pointer (some ⟨b, 0, none⟩), .int .i64 0] w fun r w' => r = .returned (.int .i64 0) ∧ ∃ o', Sole o' w' b M ∧ Fr 1 o w o' w'))
    (h : Sole o w b M0) :
    Calls Try.prog 32 #[.pointer (some ⟨b, 0, none⟩), .int .i64 (j : Nat), .string body, .string answer] w fun r w' => r = .returned (.bool true) ∧ ∃ o', Sole o' w' b M2 ∧ Fr 1 o w o' w' := by
  have ko : Hid (∀ w, Calls Try.prog 62 #[.int .i64 (1 + (j : Int)), .string answer] w fun r w' => r = .returned (.string (outsB (1 + (j : Int)) answer.size answer)) ∧ Below w.heap.size w w') := fun w => outs_any (1 + (j : Int)) (by omega) answer ha w
  have kb : Hid (∀ w, Calls Try.prog 16 #[.int .i64 3, .int .i64 (1 + (j : Int)), .string ⟨#[0]⟩, .int .i64 0] w fun r w' => r = .returned (.string (enc 3 (1 + (j : Int)) ⟨#[0]⟩ [])) ∧ Below w.heap.size w w') := fun w => by
    have := bytes_any 3 (1 + (j : Int)) ⟨#[0]⟩ 0 w (by omega) (by omega) (by decide) (by omega)
    exact this
  have hos := outsB_size (1 + (j : Int)) answer.size answer
  have hes : (enc 3 (1 + (j : Int)) ⟨#[0]⟩ []).size = 9 := by rw [enc_size]; rfl
  have hcat1 : ¬ (9223372036854775807 < was.size + (outsB (1 + (j : Int)) answer.size answer).size) := by omega
  have hcat2 : ¬ (9223372036854775807 < (was ++ outsB (1 + (j : Int)) answer.size answer).size + (enc 3 (1 + (j : Int)) ⟨#[0]⟩ []).size) := by rw [ByteArray.size_append]; omega
  obtain ⟨S1, S2, S3, S4, S5⟩ := S
  have HS1 : Hid _ := S1
  have HS2 : Hid _ := S2
  have HS3 : Hid _ := S3
  have HS4 : Hid _ := S4
  have HS5 : Hid _ := S5
  clear S1 S2 S3 S4 S5 hos hes
  generalize outsB (1 + (j : Int)) answer.size answer = outv at *
  generalize enc 3 (1 + (j : Int)) ⟨#[0]⟩ [] = endv at *
  go_enter Try.func32, Try.ntmps32
  go_wp2_with fail
  refine (K0.out _ _ h).mono ?_
  rintro e w1 ⟨rfl, hb1⟩
  have h1 := h.below hb1
  have x0 := Blk.made w1 58 [.int .i64 1, .bool false, .int .i64 0, .int .i64 0, .int .i64 (-1), .int .i64 0]
  have hcl := h1.clean _ (Nat.le_refl w1.heap.size)
  have hbA : Below w1.heap.size w1 (w1.alloc (.cells #[.int .i64 1, .bool false, .int .i64 0, .int .i64 0, .int .i64 (-1), .int .i64 0] 58)) := (Below.refl _ _).alloc (Nat.le_refl _) _
  have h2 := h1.below hbA
  have frA := ((Fr.of_below (q := 1) h.clean hb1).below hbA)
  have hN := hb1.size
  go_wp2_with fail
  have x1 : Blk (w1.alloc (.cells #[.int .i64 1, .bool false, .int .i64 0, .int .i64 0, .int .i64 (-1), .int .i64 0] 58)) w1.heap.size 58 [.int .i64 1, .bool false, .int .i64 0, .int .i64 0, .int .i64 (-1), .int .i64 0] := x0
  clear x0 hbA
  generalize w1.alloc (.cells #[.int .i64 1, .bool false, .int .i64 0, .int .i64 0, .int .i64 (-1), .int .i64 0] 58) = wA at *
  have hfar : (o w1.heap.size).1 ≠ 1 := by rw [hcl]; exact fun e => by cases e
  generalize w1.heap.size = N at *
  clear h h1 hb1 hcl
  refine (K1.out _ _ h2).mono ?_
  rintro e w3 ⟨rfl, o3, h3, f3⟩
  have x3 := x1.keep (f3.block _ x1.lt hfar)
  have far3 : (o3 N).1 ≠ 1 := by rw [f3.tags _ x1.lt]; exact hfar
  have fr3 := frA.trans f3
  clear x1 hfar frA h2 f3
  go_wp2_with fail
  refine (HS3.out _ _ h3).mono ?_
  rintro e w20 ⟨rfl, rfl⟩
  go_wp2_with fail
  refine (HS1.out _ _ h3).mono ?_
  rintro e w4a ⟨rfl, hb4⟩
  have x4a := x3.below hb4
  have h4a := h3.below hb4
  have fr4a := fr3.below hb4
  have y0 := x4a.cell (k := 0) (u := .int .i64 1) rfl
  have y1 := x4a.cell (k := 1) (u := .bool false) rfl
  have y2 := x4a.cell (k := 2) (u := .int .i64 0) rfl
  have y3 := x4a.cell (k := 3) (u := .int .i64 0) rfl
  have y4 := x4a.cell (k := 4) (u := .int .i64 (-1)) rfl
  have y5 := x4a.cell (k := 5) (u := .int .i64 0) rfl
  have fz := x4a.frozen
  have h4 := ((((((h4a.setFar far3 0 (.int .i64 3)).setFar far3 1 (.bool old)).setFar far3 2 (.int .i64 srv)).setFar far3 3 (.int .i64 snc)).setFar far3 4 (.int .i64 ((j : Int) % 4))).setFar far3 5 (.int .i64 (1 + (j : Int))))
  have fr4 := ((((((fr4a.setNew hN 0 (.int .i64 3)).setNew hN 1 (.bool old)).setNew hN 2 (.int .i64 srv)).setNew hN 3 (.int .i64 snc)).setNew hN 4 (.int .i64 ((j : Int) % 4))).setNew hN 5 (.int .i64 (1 + (j : Int))))
  have x4 : Blk ((((((w4a.setCell ⟨N, 0, none⟩ (.int .i64 3)).setCell ⟨N, 1, none⟩ (.bool old)).setCell ⟨N, 2, none⟩ (.int .i64 srv)).setCell ⟨N, 3, none⟩ (.int .i64 snc)).setCell ⟨N, 4, none⟩ (.int .i64 ((j : Int) % 4))).setCell ⟨N, 5, none⟩ (.int .i64 (1 + (j : Int)))) N 58 [.int .i64 3, .bool old, .int .i64 srv, .int .i64 snc, .int .i64 ((j : Int) % 4), .int .i64 (1 + (j : Int))] := ((((((x4a.set 0 (.int .i64 3)).set 1 (.bool old)).set 2 (.int .i64 srv)).set 3 (.int .i64 snc)).set 4 (.int .i64 ((j : Int) % 4))).set 5 (.int .i64 (1 + (j : Int))))
  clear x3 h3 fr3 x4a h4a fr4a hb4
  go_wp2_with fail
  clear y0 y1 y2 y3 y4 y5 fz
  generalize ((((((w4a.setCell ⟨N, 0, none⟩ (.int .i64 3)).setCell ⟨N, 1, none⟩ (.bool old)).setCell ⟨N, 2, none⟩ (.int .i64 srv)).setCell ⟨N, 3, none⟩ (.int .i64 snc)).setCell ⟨N, 4, none⟩ (.int .i64 ((j : Int) % 4))).setCell ⟨N, 5, none⟩ (.int .i64 (1 + (j : Int)))) = w4 at *
  refine (HS2.out _ _ h4).mono ?_
  rintro e w5 ⟨rfl, rfl⟩
  have y0 := x4.cell (k := 0) (u := .int .i64 3) rfl
  have y4 := x4.cell (k := 4) (u := .int .i64 ((j : Int) % 4)) rfl
  have y5 := x4.cell (k := 5) (u := .int .i64 (1 + (j : Int))) rfl
  go_wp2_with fail
  refine (HS4.out _ _ h4).mono ?_
  rintro e w6 ⟨rfl, o6, M1, h6, fr6, KF⟩
  have HKF : Hid _ := KF
  clear KF y0 y4 y5 h4 x4
  have frB := fr4.trans fr6
  clear fr4 fr6
  go_wp2_with fail
  refine (HKF.out _ _ h6).mono ?_
  rintro e w7 ⟨rfl, o7, h7, fr7⟩
  have frC := frB.trans fr7
  go_wp2_with fail
  refine (HS5.out _ _ h7).mono ?_
  rintro e w8 ⟨rfl, rfl⟩
  go_wp2_with fail
  refine (ko.out _).mono ?_
  rintro e w9 ⟨rfl, hb9⟩
  go_wp2_with fail
  refine (kb.out _).mono ?_
  rintro e w10 ⟨rfl, hb10⟩
  go_wp2
  go_ret
  exact ⟨by simp, o7, (h7.below hb9).below hb10, (frC.below hb9).below hb10⟩

set_option maxRecDepth 100000 in
set_option maxHeartbeats 8000000 in
theorem serves_dying {MD M0 M M2 : PM} {sD : Int} {j : Nat} {body was answer : ByteArray} {old : Bool} {srv snc : Int} (S : Serve b M j body was answer M2 old srv snc) (hj : j < 12) (ha : answer.size ≤ 1000) (hwas : was.size ≤ 100000000)
    (K0 : Hid (∀ o w, Sole o w b M0 → Calls Try.prog 35 #[.pointer (some ⟨b, 0, none⟩), .int .i64 0] w fun r w' => r = .returned (.tuple #[.agg #[.int .i64 1, .bool false, .int .i64 0, .int .i64 0, .int .i64 (-1), .int .i64 0], .int .i64 0]) ∧ Below w.heap.size w w')) (K1 : Hid (∀ o w, Sole o w b M0 → Calls Try.prog 34 #[.pointer (some ⟨b, 0, none⟩), .int .i64 0] w fun r w' => r = .returned (.int .i64 0) ∧ ∃ o', Sole o' w' b M ∧ Fr 1 o w o' w'))
    (KD : Hid (∀ o w, Sole o w b MD → Calls Try.prog 35 #[.pointer (some ⟨b, 0, none⟩), .int .i64 0] w fun r w' => r = .returned (.tuple #[.agg #[.int .i64 4, .bool false, .int .i64 sD, .int .i64 0, .int .i64 (-1), .int .i64 0], .int .i64 0]) ∧ Below w.heap.size w w')) (KX : Hid (∀ o w, Sole o w b MD → Calls Try.prog 54 #[.pointer (some ⟨b, 0, none⟩), .int .i64 0] w fun r w' => r = .returned (.int .i64 0) ∧ ∃ o', Sole o' w' b M0 ∧ Fr 1 o w o' w'))
    (h : Sole o w b MD) :
    Calls Try.prog 32 #[.pointer (some ⟨b, 0, none⟩), .int .i64 (j : Nat), .string body, .string answer] w fun r w' => r = .returned (.bool true) ∧ ∃ o', Sole o' w' b M2 ∧ Fr 1 o w o' w' := by
  have ko : Hid (∀ w, Calls Try.prog 62 #[.int .i64 (1 + (j : Int)), .string answer] w fun r w' => r = .returned (.string (outsB (1 + (j : Int)) answer.size answer)) ∧ Below w.heap.size w w') := fun w => outs_any (1 + (j : Int)) (by omega) answer ha w
  have kb : Hid (∀ w, Calls Try.prog 16 #[.int .i64 3, .int .i64 (1 + (j : Int)), .string ⟨#[0]⟩, .int .i64 0] w fun r w' => r = .returned (.string (enc 3 (1 + (j : Int)) ⟨#[0]⟩ [])) ∧ Below w.heap.size w w') := fun w => by
    have := bytes_any 3 (1 + (j : Int)) ⟨#[0]⟩ 0 w (by omega) (by omega) (by decide) (by omega)
    exact this
  have hos := outsB_size (1 + (j : Int)) answer.size answer
  have hes : (enc 3 (1 + (j : Int)) ⟨#[0]⟩ []).size = 9 := by rw [enc_size]; rfl
  have hcat1 : ¬ (9223372036854775807 < was.size + (outsB (1 + (j : Int)) answer.size answer).size) := by omega
  have hcat2 : ¬ (9223372036854775807 < (was ++ outsB (1 + (j : Int)) answer.size answer).size + (enc 3 (1 + (j : Int)) ⟨#[0]⟩ []).size) := by rw [ByteArray.size_append]; omega
  obtain ⟨S1, S2, S3, S4, S5⟩ := S
  have HS1 : Hid _ := S1
  have HS2 : Hid _ := S2
  have HS3 : Hid _ := S3
  have HS4 : Hid _ := S4
  have HS5 : Hid _ := S5
  clear S1 S2 S3 S4 S5 hos hes
  generalize outsB (1 + (j : Int)) answer.size answer = outv at *
  generalize enc 3 (1 + (j : Int)) ⟨#[0]⟩ [] = endv at *
  go_enter Try.func32, Try.ntmps32
  go_wp2_with fail
  refine (KD.out _ _ h).mono ?_
  rintro e w1 ⟨rfl, hb1⟩
  have h1 := h.below hb1
  have x0 := Blk.made w1 58 [.int .i64 4, .bool false, .int .i64 sD, .int .i64 0, .int .i64 (-1), .int .i64 0]
  have hcl := h1.clean _ (Nat.le_refl w1.heap.size)
  have hbA : Below w1.heap.size w1 (w1.alloc (.cells #[.int .i64 4, .bool false, .int .i64 sD, .int .i64 0, .int .i64 (-1), .int .i64 0] 58)) := (Below.refl _ _).alloc (Nat.le_refl _) _
  have h2 := h1.below hbA
  have frA := ((Fr.of_below (q := 1) h.clean hb1).below hbA)
  have hN := hb1.size
  go_wp2_with fail
  have x1 : Blk (w1.alloc (.cells #[.int .i64 4, .bool false, .int .i64 sD, .int .i64 0, .int .i64 (-1), .int .i64 0] 58)) w1.heap.size 58 [.int .i64 4, .bool false, .int .i64 sD, .int .i64 0, .int .i64 (-1), .int .i64 0] := x0
  clear x0 hbA
  generalize w1.alloc (.cells #[.int .i64 4, .bool false, .int .i64 sD, .int .i64 0, .int .i64 (-1), .int .i64 0] 58) = wA at *
  have hfar : (o w1.heap.size).1 ≠ 1 := by rw [hcl]; exact fun e => by cases e
  generalize w1.heap.size = N at *
  clear h h1 hb1 hcl
  refine (KX.out _ _ h2).mono ?_
  rintro e w3 ⟨rfl, o3, h3, f3⟩
  have x3 := x1.keep (f3.block _ x1.lt hfar)
  have far3 : (o3 N).1 ≠ 1 := by rw [f3.tags _ x1.lt]; exact hfar
  have fr3 := frA.trans f3
  clear x1 hfar frA h2 f3
  go_wp2_with fail
  refine (K0.out _ _ h3).mono ?_
  rintro e w11a ⟨rfl, hb11⟩
  have x11a := x3.below hb11
  have h11a := h3.below hb11
  have fr11a := fr3.below hb11
  have y0 := x11a.cell (k := 0) (u := .int .i64 4) rfl
  have y1 := x11a.cell (k := 1) (u := .bool false) rfl
  have y2 := x11a.cell (k := 2) (u := .int .i64 sD) rfl
  have y3 := x11a.cell (k := 3) (u := .int .i64 0) rfl
  have y4 := x11a.cell (k := 4) (u := .int .i64 (-1)) rfl
  have y5 := x11a.cell (k := 5) (u := .int .i64 0) rfl
  have fz := x11a.frozen
  have h11 := ((((((h11a.setFar far3 0 (.int .i64 1)).setFar far3 1 (.bool false)).setFar far3 2 (.int .i64 0)).setFar far3 3 (.int .i64 0)).setFar far3 4 (.int .i64 (-1))).setFar far3 5 (.int .i64 0))
  have fr11 := ((((((fr11a.setNew hN 0 (.int .i64 1)).setNew hN 1 (.bool false)).setNew hN 2 (.int .i64 0)).setNew hN 3 (.int .i64 0)).setNew hN 4 (.int .i64 (-1))).setNew hN 5 (.int .i64 0))
  have x11 : Blk ((((((w11a.setCell ⟨N, 0, none⟩ (.int .i64 1)).setCell ⟨N, 1, none⟩ (.bool false)).setCell ⟨N, 2, none⟩ (.int .i64 0)).setCell ⟨N, 3, none⟩ (.int .i64 0)).setCell ⟨N, 4, none⟩ (.int .i64 (-1))).setCell ⟨N, 5, none⟩ (.int .i64 0)) N 58 [.int .i64 1, .bool false, .int .i64 0, .int .i64 0, .int .i64 (-1), .int .i64 0] := ((((((x11a.set 0 (.int .i64 1)).set 1 (.bool false)).set 2 (.int .i64 0)).set 3 (.int .i64 0)).set 4 (.int .i64 (-1))).set 5 (.int .i64 0))
  clear x3 h3 fr3 x11a h11a fr11a hb11
  go_wp2_with fail
  clear y0 y1 y2 y3 y4 y5 fz
  generalize ((((((w11a.setCell ⟨N, 0, none⟩ (.int .i64 1)).setCell ⟨N, 1, none⟩ (.bool false)).setCell ⟨N, 2, none⟩ (.int .i64 0)).setCell ⟨N, 3, none⟩ (.int .i64 0)).setCell ⟨N, 4, none⟩ (.int .i64 (-1))).setCell ⟨N, 5, none⟩ (.int .i64 0)) = w11 at *
  refine (K1.out _ _ h11).mono ?_
  rintro e w12 ⟨rfl, o12, h12, f12⟩
  have x12 := x11.keep (f12.block _ x11.lt far3)
  have far12 : (o12 N).1 ≠ 1 := by rw [f12.tags _ x11.lt]; exact far3
  have fr12 := fr11.trans f12
  clear x11 far3 fr11 h11 f12
  go_wp2_with fail
  refine (HS3.out _ _ h12).mono ?_
  rintro e w20 ⟨rfl, rfl⟩
  go_wp2_with fail
  refine (HS1.out _ _ h12).mono ?_
  rintro e w4a ⟨rfl, hb4⟩
  have x4a := x12.below hb4
  have h4a := h12.below hb4
  have fr4a := fr12.below hb4
  have y0 := x4a.cell (k := 0) (u := .int .i64 1) rfl
  have y1 := x4a.cell (k := 1) (u := .bool false) rfl
  have y2 := x4a.cell (k := 2) (u := .int .i64 0) rfl
  have y3 := x4a.cell (k := 3) (u := .int .i64 0) rfl
  have y4 := x4a.cell (k := 4) (u := .int .i64 (-1)) rfl
  have y5 := x4a.cell (k := 5) (u := .int .i64 0) rfl
  have fz := x4a.frozen
  have h4 := ((((((h4a.setFar far12 0 (.int .i64 3)).setFar far12 1 (.bool old)).setFar far12 2 (.int .i64 srv)).setFar far12 3 (.int .i64 snc)).setFar far12 4 (.int .i64 ((j : Int) % 4))).setFar far12 5 (.int .i64 (1 + (j : Int))))
  have fr4 := ((((((fr4a.setNew hN 0 (.int .i64 3)).setNew hN 1 (.bool old)).setNew hN 2 (.int .i64 srv)).setNew hN 3 (.int .i64 snc)).setNew hN 4 (.int .i64 ((j : Int) % 4))).setNew hN 5 (.int .i64 (1 + (j : Int))))
  have x4 : Blk ((((((w4a.setCell ⟨N, 0, none⟩ (.int .i64 3)).setCell ⟨N, 1, none⟩ (.bool old)).setCell ⟨N, 2, none⟩ (.int .i64 srv)).setCell ⟨N, 3, none⟩ (.int .i64 snc)).setCell ⟨N, 4, none⟩ (.int .i64 ((j : Int) % 4))).setCell ⟨N, 5, none⟩ (.int .i64 (1 + (j : Int)))) N 58 [.int .i64 3, .bool old, .int .i64 srv, .int .i64 snc, .int .i64 ((j : Int) % 4), .int .i64 (1 + (j : Int))] := ((((((x4a.set 0 (.int .i64 3)).set 1 (.bool old)).set 2 (.int .i64 srv)).set 3 (.int .i64 snc)).set 4 (.int .i64 ((j : Int) % 4))).set 5 (.int .i64 (1 + (j : Int))))
  clear x12 h12 fr12 x4a h4a fr4a hb4
  go_wp2_with fail
  clear y0 y1 y2 y3 y4 y5 fz
  generalize ((((((w4a.setCell ⟨N, 0, none⟩ (.int .i64 3)).setCell ⟨N, 1, none⟩ (.bool old)).setCell ⟨N, 2, none⟩ (.int .i64 srv)).setCell ⟨N, 3, none⟩ (.int .i64 snc)).setCell ⟨N, 4, none⟩ (.int .i64 ((j : Int) % 4))).setCell ⟨N, 5, none⟩ (.int .i64 (1 + (j : Int)))) = w4 at *
  refine (HS2.out _ _ h4).mono ?_
  rintro e w5 ⟨rfl, rfl⟩
  have y0 := x4.cell (k := 0) (u := .int .i64 3) rfl
  have y4 := x4.cell (k := 4) (u := .int .i64 ((j : Int) % 4)) rfl
  have y5 := x4.cell (k := 5) (u := .int .i64 (1 + (j : Int))) rfl
  go_wp2_with fail
  refine (HS4.out _ _ h4).mono ?_
  rintro e w6 ⟨rfl, o6, M1, h6, fr6, KF⟩
  have HKF : Hid _ := KF
  clear KF y0 y4 y5 h4 x4
  have frB := fr4.trans fr6
  clear fr4 fr6
  go_wp2_with fail
  refine (HKF.out _ _ h6).mono ?_
  rintro e w7 ⟨rfl, o7, h7, fr7⟩
  have frC := frB.trans fr7
  go_wp2_with fail
  refine (HS5.out _ _ h7).mono ?_
  rintro e w8 ⟨rfl, rfl⟩
  go_wp2_with fail
  refine (ko.out _).mono ?_
  rintro e w9 ⟨rfl, hb9⟩
  go_wp2_with fail
  refine (kb.out _).mono ?_
  rintro e w10 ⟨rfl, hb10⟩
  go_wp2
  go_ret
  exact ⟨by simp, o7, (h7.below hb9).below hb10, (frC.below hb9).below hb10⟩
end
end Go.Proofs.Ytlafkpaljibonaa

namespace Go.Proofs.Ytlafkpaljibonaa
open Go.RowKit

def whC (mr : Int) : Cfg := ⟨1, false, 0, 0, mr, 0, 20⟩
/-- The request i, waiting; and n of them from i on. -/
def rq (body : Nat → ByteArray) (i : Nat) : Req := ⟨(i : Int) % 4, 1 + (i : Int), 1, body i⟩
def wl (body : Nat → ByteArray) : Nat → Nat → List Req
  | _, 0 => []
  | i, n + 1 => rq body i :: wl body (i + 1) n

section
variable {o : Nat → Tag} {w : World} {b : Nat} {body : Nat → ByteArray}

theorem wl_snoc : ∀ (n i : Nat), wl body i (n + 1) = wl body i n ++ [rq body (i + n)]
  | 0, i => rfl
  | n + 1, i => by
    show rq body i :: wl body (i + 1) (n + 1) = _
    rw [wl_snoc n (i + 1)]
    show _ = (rq body i :: wl body (i + 1) n) ++ _
    rw [List.cons_append, show i + 1 + n = i + (n + 1) by omega]

theorem wl_mem : ∀ (n i : Nat) (r : Req), r ∈ wl body i n → ∃ j, i ≤ j ∧ j < i + n ∧ r = rq body j
  | 0, i, r, h => by cases h
  | n + 1, i, r, h => by
    rcases List.mem_cons.1 h with e | e
    · exact ⟨i, Nat.le_refl _, by omega, e⟩
    · obtain ⟨j, h1, h2, h3⟩ := wl_mem n (i + 1) r e
      exact ⟨j, by omega, by omega, h3⟩

theorem wl_length : ∀ (n i : Nat), (wl body i n).length = n
  | 0, _ => rfl
  | n + 1, i => by
    show (wl body (i + 1) n).length + 1 = _
    rw [wl_length n (i + 1)]

theorem wl_nokey {i n : Nat} {c k : Int} (h : k ≤ i) : ∀ r ∈ wl body i n, isKey c k r = false := by
  intro r hr
  obtain ⟨j, h1, h2, rfl⟩ := wl_mem n i r hr
  have : (1 + (j : Int) == k) = false := by
    rw [beq_eq_false_iff_ne]; omega
  show ((j : Int) % 4 == c && 1 + (j : Int) == k) = false
  rw [this, Bool.and_false]

def cnt (c : Int) : Nat → Nat → Nat
  | _, 0 => 0
  | i, n + 1 => (cond ((i : Int) % 4 == c) 1 0) + cnt c (i + 1) n

theorem wl_cnt (c : Int) : ∀ (n i : Nat), ((wl body i n).filter fun r => r.conn == c).length = cnt c i n
  | 0, _ => rfl
  | n + 1, i => by
    show ((rq body i :: wl body (i + 1) n).filter fun r => r.conn == c).length = _
    rw [List.filter_cons]
    have e : ((rq body i).conn == c) = ((i : Int) % 4 == c) := rfl
    rw [e]
    show _ = (cond ((i : Int) % 4 == c) 1 0) + cnt c (i + 1) n
    cases ((i : Int) % 4 == c)
    · simp [wl_cnt c n (i + 1)]
    · simp [wl_cnt c n (i + 1)]; omega

theorem cnt_few : ∀ j : Nat, j < 12 → cnt ((j : Int) % 4) 0 j < 4 := by decide

/-- The states ahead of the request i, k in all. -/
def SInv (mr : Int) (body : Nat → ByteArray) (k i : Nat) (M : PM) : Prop := ∃ con,
  M = mkW (whC mr) con (wl body i (k - i)) (newSlot 1) ∨
  (∃ sD, M = mkW (whC mr) con (wl body i (k - i)) ⟨4, false, sD, 0, -1, 0, ⟨#[]⟩⟩) ∨
  (i < k ∧ ∃ srv, M = mkW (whC mr) con (⟨(i : Int) % 4, 1 + (i : Int), 2, ⟨#[]⟩⟩ :: wl body (i + 1) (k - (i + 1))) ⟨3, false, srv, 0, (i : Int) % 4, 1 + (i : Int), body i⟩) ∨
  (k ≤ i ∧ ∃ s, M = mkW (whC mr) con [] s)

theorem SInv.req {mr : Int} {k i : Nat} {M : PM} (h : SInv mr body k i M) (hk : k ≤ i) : M.req = [] := by
  obtain ⟨con, h | ⟨sD, h⟩ | ⟨h1, h⟩ | ⟨h1, s, h⟩⟩ := h
  · subst h; show wl body i (k - i) = []; rw [show k - i = 0 by omega]; rfl
  · subst h; show wl body i (k - i) = []; rw [show k - i = 0 by omega]; rfl
  · omega
  · subst h; rfl

theorem end_enc (i : Int) (hi : 1 ≤ i ∧ i ≤ 65535) : encB 3 i (strOfNums [0]) = enc 3 i ⟨#[0]⟩ [] := by
  have h : allowedB 3 i (strOfNums [0]).size = true := by
    rw [strOfNums_size]
    simp [allowedB, isKindB]; omega
  rw [(encB_good h).1]
  rfl

theorem toNat_mod (i : Nat) : ((i : Int) % 4).toNat = i % 4 := by omega

theorem isC_mod (i : Nat) : isC ((i : Int) % 4) = true := by
  unfold isC
  have h1 : (0 : Int) ≤ (i : Int) % 4 := by omega
  have h2 : (i : Int) % 4 ≤ 3 := by omega
  rw [decide_eq_true h1, decide_eq_true h2]; rfl

section
variable {c : Cfg} {con : Nat → PConn} {l : List Req} {s : PSlot}
theorem mkW_stE (st : Int) (h : s.st = st) : (mkW c con l s).stE 0 st = 0 := by
  show cond (s.st == st) 0 6 = (0 : Int)
  rw [h]; simp
theorem mkW_aSpawned (h : s.st = 1) : (mkW c con l s).afterSpawned 0 = (mkW c con l s).spawned 0 := by
  unfold PM.afterSpawned
  rw [mkW_stE 1 h]; rfl
theorem mkW_aOutput (h : s.st = 3) (t : ByteArray) : (mkW c con l s).afterOutput 0 t = (mkW c con l s).outputs 0 t := by
  unfold PM.afterOutput
  rw [mkW_stE 3 h]; rfl
theorem mkW_aFinished (h : s.st = 3) : (mkW c con l s).afterFinished 0 = (mkW c con l s).finished 0 := by
  unfold PM.afterFinished
  rw [mkW_stE 3 h]; rfl
theorem mkW_diedE (h : s.st = 4) : (mkW c con l s).diedE 0 = 0 := by
  show cond (s.st == 0) 6 0 = (0 : Int)
  rw [h]; rfl
theorem mkW_aDied (h : s.st = 4) : (mkW c con l s).afterDied 0 = (mkW c con l s).died 0 := by
  unfold PM.afterDied
  rw [mkW_diedE h]; rfl
end

/-- What Finished leaves. -/
theorem finish_inv {mr : Int} {k i : Nat} (hi : i < k) (con : Nat → PConn) (srv : Int) :
    ∃ M2, (mkW (whC mr) con (⟨(i : Int) % 4, 1 + (i : Int), 2, ⟨#[]⟩⟩ :: wl body (i + 1) (k - (i + 1))) ⟨3, false, srv, 0, (i : Int) % 4, 1 + (i : Int), body i⟩).finished 0 = M2 ∧ M2.con = sendC con (i % 4) (encB 3 (1 + (i : Int)) (strOfNums [0])) ∧ SInv mr body k (i + 1) M2 := by
  have hkey : isKey ((i % 4 : Nat) : Int) (1 + (i : Int)) ⟨(i : Int) % 4, 1 + (i : Int), 2, ⟨#[]⟩⟩ = true := by
    show ((i : Int) % 4 == ((i % 4 : Nat) : Int) && (1 + (i : Int)) == (1 + (i : Int))) = true
    simp
  have hno : ∀ x ∈ wl body (i + 1) (k - (i + 1)), isKey ((i % 4 : Nat) : Int) (1 + (i : Int)) x = false := wl_nokey (by omega)
  by_cases hm : 0 < mr ∧ mr ≤ srv
  · refine ⟨_, mkW_finished_go (c := whC mr) (s := ⟨3, false, srv, 0, (i : Int) % 4, 1 + (i : Int), body i⟩) rfl rfl (i % 4) (1 + (i : Int)) _ hkey hno rfl rfl rfl hm, rfl, ?_⟩
    exact ⟨_, .inr (.inl ⟨srv, rfl⟩)⟩
  · by_cases hl : i + 1 < k
    · obtain ⟨n, hn⟩ : ∃ n, k - (i + 1) = n + 1 := ⟨k - (i + 1) - 1, by omega⟩
      have e : wl body (i + 1) (k - (i + 1)) = rq body (i + 1) :: wl body (i + 2) n := by rw [hn]; rfl
      rw [e] at hno ⊢
      refine ⟨_, mkW_finished_next (c := whC mr) (s := ⟨3, false, srv, 0, (i : Int) % 4, 1 + (i : Int), body i⟩) rfl rfl (i % 4) (1 + (i : Int)) _ (rq body (i + 1)) hkey hno rfl rfl rfl hm rfl, rfl, ?_⟩
      refine ⟨sendC con (i % 4) (encB 3 (1 + (i : Int)) (strOfNums [0])), .inr (.inr (.inl ⟨hl, wrap64 (srv + 1), ?_⟩))⟩
      rw [show k - (i + 1 + 1) = n by omega]
      rfl
    · have e : wl body (i + 1) (k - (i + 1)) = [] := by rw [show k - (i + 1) = 0 by omega]; rfl
      rw [e]
      refine ⟨_, mkW_finished_last (c := whC mr) (s := ⟨3, false, srv, 0, (i : Int) % 4, 1 + (i : Int), body i⟩) rfl rfl (i % 4) (1 + (i : Int)) _ hkey rfl rfl rfl hm, rfl, ?_⟩
      exact ⟨_, .inr (.inr (.inr ⟨by omega, _, rfl⟩))⟩

/-- The worker at work: all that 'serves' asks. -/
theorem serve_of {mr : Int} {k i B : Nat} (hi : i < k) (hk : k ≤ 12) (con : Nat → PConn) (srv : Int) (answer : ByteArray) (ha : answer.size ≤ 1000) (hB : B ≤ 400000)
    (hf : (mkW (whC mr) con (⟨(i : Int) % 4, 1 + (i : Int), 2, ⟨#[]⟩⟩ :: wl body (i + 1) (k - (i + 1))) ⟨3, false, srv, 0, (i : Int) % 4, 1 + (i : Int), body i⟩).Fit B) :
    ∃ M2 was, SInv mr body k (i + 1) M2 ∧ M2.Fit (B + 2000) ∧ was.size ≤ 100000000 ∧ Serve b (mkW (whC mr) con (⟨(i : Int) % 4, 1 + (i : Int), 2, ⟨#[]⟩⟩ :: wl body (i + 1) (k - (i + 1))) ⟨3, false, srv, 0, (i : Int) % 4, 1 + (i : Int), body i⟩) i (body i) was answer M2 false srv 0 := by
  obtain ⟨M2, e2, ec2, hI⟩ := finish_inv (mr := mr) (body := body) hi (sendC con (i % 4) (outsB (1 + (i : Int)) answer.size answer)) srv
  have eo : (mkW (whC mr) con (⟨(i : Int) % 4, 1 + (i : Int), 2, ⟨#[]⟩⟩ :: wl body (i + 1) (k - (i + 1))) ⟨3, false, srv, 0, (i : Int) % 4, 1 + (i : Int), body i⟩).afterOutput 0 answer = mkW (whC mr) (sendC con (i % 4) (outsB (1 + (i : Int)) answer.size answer)) (⟨(i : Int) % 4, 1 + (i : Int), 2, ⟨#[]⟩⟩ :: wl body (i + 1) (k - (i + 1))) ⟨3, false, srv, 0, (i : Int) % 4, 1 + (i : Int), body i⟩ := by
    rw [mkW_aOutput rfl]
    exact mkW_outputs (c := whC mr) (s := ⟨3, false, srv, 0, (i : Int) % 4, 1 + (i : Int), body i⟩) rfl rfl rfl (i % 4) (1 + (i : Int)) rfl rfl answer
  have hf1 := hf.afterOutput 0 answer
  rw [eo] at hf1
  have hf2 := hf1.afterFinished 0
  have e2' : (mkW (whC mr) (sendC con (i % 4) (outsB (1 + (i : Int)) answer.size answer)) (⟨(i : Int) % 4, 1 + (i : Int), 2, ⟨#[]⟩⟩ :: wl body (i + 1) (k - (i + 1))) ⟨3, false, srv, 0, (i : Int) % 4, 1 + (i : Int), body i⟩).afterFinished 0 = M2 := by rw [mkW_aFinished rfl]; exact e2
  rw [e2'] at hf2
  have ewas : (mkW (whC mr) con (⟨(i : Int) % 4, 1 + (i : Int), 2, ⟨#[]⟩⟩ :: wl body (i + 1) (k - (i + 1))) ⟨3, false, srv, 0, (i : Int) % 4, 1 + (i : Int), body i⟩).sent_ ((i : Int) % 4) = strOfNums (con (i % 4)).sent := by
    unfold PM.sent_
    rw [isC_mod, cond_true, toNat_mod]
    rfl
  have enow : M2.sent_ ((i : Int) % 4) = (strOfNums (con (i % 4)).sent ++ outsB (1 + (i : Int)) answer.size answer) ++ enc 3 (1 + (i : Int)) ⟨#[0]⟩ [] := by
    unfold PM.sent_
    rw [isC_mod, cond_true, toNat_mod, ec2, sendC_two, end_enc _ (by omega)]
    show strOfNums (upd con (i % 4) { con (i % 4) with sent := (con (i % 4)).sent ++ nums (outsB (1 + (i : Int)) answer.size answer ++ enc 3 (1 + (i : Int)) ⟨#[0]⟩ []) } (i % 4)).sent = _
    simp only [upd, if_true]
    rw [← strOfNums_append, strOfNums_nums, ByteArray.append_assoc]
  refine ⟨M2, strOfNums (con (i % 4)).sent, hI, hf2.mono (by omega), ?_, ?_, ?_, ?_, ?_, ?_⟩
  · rw [strOfNums_size]
    have := hf.small.sent (i % 4) (by omega)
    have e : (mkW (whC mr) con (⟨(i : Int) % 4, 1 + (i : Int), 2, ⟨#[]⟩⟩ :: wl body (i + 1) (k - (i + 1))) ⟨3, false, srv, 0, (i : Int) % 4, 1 + (i : Int), body i⟩).con = con := rfl
    rw [e] at this
    omega
  · intro o w h
    obtain ⟨_, _, h⟩ := h
    exact slot_any h 0
  · intro o w h
    obtain ⟨_, _, h⟩ := h
    exact job_any h 0
  · intro o w h
    obtain ⟨_, _, h⟩ := h
    have := sent_any h ((i : Int) % 4)
    rw [ewas] at this
    exact this
  · intro o w h
    obtain ⟨_, _, h⟩ := h
    refine (output_left h (by omega) hf (by omega) 0 answer (by omega)).mono ?_
    rintro r w' ⟨e, o', x, y, h1, h2⟩
    rw [eo] at h1
    refine ⟨e, o', _, ⟨x, y, h1⟩, h2, ?_⟩
    intro o w h
    obtain ⟨_, _, h⟩ := h
    refine (finished_left h (by omega) hf1 (by omega) 0).mono ?_
    rintro r w' ⟨e, o', x, y, h1, h2⟩
    rw [e2'] at h1
    exact ⟨e, o', ⟨x, y, h1⟩, h2⟩
  · intro o w h
    obtain ⟨_, _, h⟩ := h
    have := sent_any h ((i : Int) % 4)
    rw [enow] at this
    exact this

theorem serves_any {mr : Int} {k i B : Nat} (hi : i < k) (hk : k ≤ 12) (answer : ByteArray) (ha : answer.size ≤ 1000) (hB : B ≤ 300000) {M : PM} (hI : SInv mr body k i M) (hf : M.Fit B) (h : Sole o w b M) :
    Calls Try.prog 32 #[.pointer (some ⟨b, 0, none⟩), .int .i64 (i : Nat), .string (body i), .string answer] w fun r w' => r = .returned (.bool true) ∧ ∃ o' M', SInv mr body k (i + 1) M' ∧ M'.Fit (B + 2001) ∧ Sole o' w' b M' ∧ Fr 1 o w o' w' := by
  obtain ⟨n, hn⟩ : ∃ n, k - i = n + 1 := ⟨k - i - 1, by omega⟩
  have ewl : wl body i (k - i) = rq body i :: wl body (i + 1) (k - (i + 1)) := by rw [hn, show k - (i + 1) = n by omega]; rfl
  have spawnE : ∀ con, (mkW (whC mr) con (rq body i :: wl body (i + 1) (k - (i + 1))) (newSlot 1)).afterSpawned 0 = mkW (whC mr) con (⟨(i : Int) % 4, 1 + (i : Int), 2, ⟨#[]⟩⟩ :: wl body (i + 1) (k - (i + 1))) ⟨3, false, 1, 0, (i : Int) % 4, 1 + (i : Int), body i⟩ := fun con => by
    have e1 : wrap64 ((newSlot 1).served + 1) = 1 := by show wrap64 (0 + 1) = 1; rw [wrap_small (by omega) (by omega)]; rfl
    have := mkW_spawned (c := whC mr) (con := con) (l := wl body (i + 1) (k - (i + 1))) (s := newSlot 1) rfl rfl rfl (rq body i) rfl
    rw [e1] at this
    rw [mkW_aSpawned rfl, this]
    rfl
  have K0 : ∀ con, Hid (∀ o w, Sole o w b (mkW (whC mr) con (rq body i :: wl body (i + 1) (k - (i + 1))) (newSlot 1)) → Calls Try.prog 35 #[.pointer (some ⟨b, 0, none⟩), .int .i64 0] w fun r w' => r = .returned (.tuple #[.agg #[.int .i64 1, .bool false, .int .i64 0, .int .i64 0, .int .i64 (-1), .int .i64 0], .int .i64 0]) ∧ Below w.heap.size w w') := fun con o w h => by
    obtain ⟨_, _, h⟩ := h
    exact slot_any h 0
  have K1 : ∀ con, Hid (∀ o w, Sole o w b (mkW (whC mr) con (rq body i :: wl body (i + 1) (k - (i + 1))) (newSlot 1)) → Calls Try.prog 34 #[.pointer (some ⟨b, 0, none⟩), .int .i64 0] w fun r w' => r = .returned (.int .i64 0) ∧ ∃ o', Sole o' w' b (mkW (whC mr) con (⟨(i : Int) % 4, 1 + (i : Int), 2, ⟨#[]⟩⟩ :: wl body (i + 1) (k - (i + 1))) ⟨3, false, 1, 0, (i : Int) % 4, 1 + (i : Int), body i⟩) ∧ Fr 1 o w o' w') := fun con o w h => by
    obtain ⟨_, _, h⟩ := h
    refine (spawned_left h 0).mono ?_
    rintro r w' ⟨e, o', x, y, h1, h2⟩
    rw [spawnE] at h1
    exact ⟨e, o', ⟨x, y, h1⟩, h2⟩
  obtain ⟨con, hc | ⟨sD, hc⟩ | ⟨-, srv, hc⟩ | ⟨hc, -⟩⟩ := hI
  · rw [ewl] at hc
    subst hc
    have hf1 := hf.afterSpawned 0
    rw [spawnE] at hf1
    obtain ⟨M2, was, i1, i2, i3, i4⟩ := serve_of (b := b) hi hk con 1 answer ha (by omega) hf1
    refine (serves_start i4 (by omega) ha i3 (K0 con) (K1 con) h).mono ?_
    rintro r w' ⟨e, o', h1, h2⟩
    exact ⟨e, o', M2, i1, i2.mono (by omega), h1, h2⟩
  · rw [ewl] at hc
    subst hc
    have diedE : (mkW (whC mr) con (rq body i :: wl body (i + 1) (k - (i + 1))) ⟨4, false, sD, 0, -1, 0, ⟨#[]⟩⟩).afterDied 0 = mkW (whC mr) con (rq body i :: wl body (i + 1) (k - (i + 1))) (newSlot 1) := by
      rw [mkW_aDied rfl]
      exact mkW_died (c := whC mr) (s := ⟨4, false, sD, 0, -1, 0, ⟨#[]⟩⟩) rfl rfl rfl
    have hf0 := hf.afterDied 0
    rw [diedE] at hf0
    have hf1 := hf0.afterSpawned 0
    rw [spawnE] at hf1
    obtain ⟨M2, was, i1, i2, i3, i4⟩ := serve_of (b := b) hi hk con 1 answer ha (by omega) hf1
    have KD : Hid (∀ o w, Sole o w b (mkW (whC mr) con (rq body i :: wl body (i + 1) (k - (i + 1))) ⟨4, false, sD, 0, -1, 0, ⟨#[]⟩⟩) → Calls Try.prog 35 #[.pointer (some ⟨b, 0, none⟩), .int .i64 0] w fun r w' => r = .returned (.tuple #[.agg #[.int .i64 4, .bool false, .int .i64 sD, .int .i64 0, .int .i64 (-1), .int .i64 0], .int .i64 0]) ∧ Below w.heap.size w w') := fun o w h => by
      obtain ⟨_, _, h⟩ := h
      exact slot_any h 0
    have KX : Hid (∀ o w, Sole o w b (mkW (whC mr) con (rq body i :: wl body (i + 1) (k - (i + 1))) ⟨4, false, sD, 0, -1, 0, ⟨#[]⟩⟩) → Calls Try.prog 54 #[.pointer (some ⟨b, 0, none⟩), .int .i64 0] w fun r w' => r = .returned (.int .i64 0) ∧ ∃ o', Sole o' w' b (mkW (whC mr) con (rq body i :: wl body (i + 1) (k - (i + 1))) (newSlot 1)) ∧ Fr 1 o w o' w') := fun o w h => by
      obtain ⟨_, _, h⟩ := h
      refine (died_left h (by omega) hf (by omega) 0).mono ?_
      rintro r w' ⟨e, o', x, y, h1, h2⟩
      rw [diedE] at h1
      exact ⟨e, o', ⟨x, y, h1⟩, h2⟩
    refine (serves_dying i4 (by omega) ha i3 (K0 con) (K1 con) KD KX h).mono ?_
    rintro r w' ⟨e, o', h1, h2⟩
    exact ⟨e, o', M2, i1, i2.mono (by omega), h1, h2⟩
  · subst hc
    obtain ⟨M2, was, i1, i2, i3, i4⟩ := serve_of (b := b) hi hk con srv answer ha (by omega) hf
    refine (serves_busy i4 (by omega) ha i3 h).mono ?_
    rintro r w' ⟨e, o', h1, h2⟩
    exact ⟨e, o', M2, i1, i2.mono (by omega), h1, h2⟩
  · omega
end
end Go.Proofs.Ytlafkpaljibonaa

namespace Go.Proofs.Ytlafkpaljibonaa
open Go.RowKit

/-- A slice of strings. -/
def IsStrs (w : World) (a : Option Addr) (n : Nat) (S : Nat → ByteArray) : Prop :=
  n = 0 ∨ ∃ b off, a = some ⟨b, off, none⟩ ∧ b < w.heap.size ∧ ∀ k, k < n → w.cell? ⟨b, off + k, none⟩ = some (.string (S k))

def conN (n : Nat) : Nat → PConn := fun k => if k < n then ⟨true, ⟨#[]⟩, []⟩ else ⟨false, ⟨#[]⟩, []⟩

section
variable {o : Nat → Tag} {w : World} {b : Nat} {body : Nat → ByteArray}

theorem new_whole (mr : Int) : newPM (whC mr) = mkW (whC mr) (conN 0) [] (newSlot 1) := by
  have e : rawPM (whC mr) = mkW (whC mr) (conN 0) [] (newSlot 0) := by
    unfold rawPM mkW
    congr 1
    funext k
    simp [oneSlot]
  unfold newPM
  rw [e]
  exact settle_empty rfl rfl rfl

theorem connect_whole (mr : Int) (n : Nat) (hn : n < 4) : (mkW (whC mr) (conN n) [] (newSlot 1)).afterConnect (n : Int) = mkW (whC mr) (conN (n + 1)) [] (newSlot 1) ∧ (mkW (whC mr) (conN n) [] (newSlot 1)).connectE (n : Int) = 0 := by
  have hC : isC (n : Int) = true := by
    unfold isC
    rw [decide_eq_true (show (0 : Int) ≤ n by omega), decide_eq_true (show (n : Int) ≤ 3 by omega)]; rfl
  have hop : ((mkW (whC mr) (conN n) [] (newSlot 1)).con (n : Int).toNat).op = false := by
    show (conN n n).op = false
    unfold conN
    rw [if_neg (by omega)]
  refine ⟨?_, ?_⟩
  · unfold PM.afterConnect
    rw [hC, hop]
    show (mkW (whC mr) (conN n) [] (newSlot 1)).connect n = _
    unfold PM.connect
    have : upd (conN n) n ⟨true, ⟨#[]⟩, []⟩ = conN (n + 1) := by
      funext k
      simp only [upd, conN]
      by_cases h1 : k = n
      · rw [if_pos h1, if_pos (by omega)]
      · rw [if_neg h1]
        by_cases h2 : k < n
        · rw [if_pos h2, if_pos (by omega)]
        · rw [if_neg h2, if_neg (by omega)]
    show (⟨whC mr, 0, upd (conN n) n ⟨true, ⟨#[]⟩, []⟩, [], oneSlot (newSlot 1)⟩ : PM) = _
    rw [this]
    rfl
  · unfold PM.connectE
    rw [hC, hop]; rfl

theorem tame_whole (mr : Int) : (mkW (whC mr) (conN 4) [] (newSlot 1)).tame := by
  refine ⟨mkW_calm rfl rfl (by decide) (by decide), ?_, ?_, ?_⟩
  · intro k hk
    show (conN 4 k).sent.length ≤ _
    unfold conN; rw [if_pos hk]; exact Nat.zero_le _
  · intro k hk
    show (conN 4 k).rest = _
    unfold conN; rw [if_pos hk]
  · intro k hk
    show (conN 4 k).op = _
    unfold conN; rw [if_pos hk]

theorem fed_whole (mr : Int) (j : Nat) (hj : j < 12) (hbd : ∀ i, (body i).size ≤ 500) (P : Nat) (hP : P < 200) (h : Sole o w b (mkW (whC mr) (conN 4) (wl body 0 j) (newSlot 1))) :
    Calls Try.prog 29 #[.pointer (some ⟨b, 0, none⟩), .int .i64 ((j : Int) % 4), .int .i64 (1 + (j : Int)), .string (body j), .int .i64 (1 + (P : Int))] w fun r w' => r = .returned (.bool true) ∧ ∃ o', Sole o' w' b (mkW (whC mr) (conN 4) (wl body 0 (j + 1)) (newSlot 1)) ∧ Fr 1 o w o' w' := by
  obtain ⟨_, _, h⟩ := h
  have hno : ∀ r ∈ wl body 0 j, isKey ((j % 4 : Nat) : Int) (1 + (j : Int)) r = false := by
    intro r hr
    obtain ⟨i, h1, h2, rfl⟩ := wl_mem j 0 r hr
    have : (1 + (i : Int) == 1 + (j : Int)) = false := by
      rw [beq_eq_false_iff_ne]; omega
    show (_ && (1 + (i : Int) == 1 + (j : Int))) = false
    rw [this, Bool.and_false]
  have hWb : ∀ r ∈ wl body 0 j, r.body.size ≤ 1000 := by
    intro r hr
    obtain ⟨i, h1, h2, rfl⟩ := wl_mem j 0 r hr
    have := hbd i
    show (body i).size ≤ 1000
    omega
  have hk : ((wl body 0 j).filter fun r => r.conn == ((j % 4 : Nat) : Int)).length < 4 := by
    rw [wl_cnt]
    exact cnt_few j hj
  have hroom : (((wl body 0 j).filter fun r => r.stage == 1).length : Int) < (mkW (whC mr) (conN 4) [] (newSlot 1)).set.bl := by
    have := List.length_filter_le (fun r : Req => r.stage == 1) (wl body 0 j)
    rw [wl_length] at this
    show _ < (20 : Int)
    omega
  have := fed_any (m := mkW (whC mr) (conN 4) [] (newSlot 1)) (W := wl body 0 j) (c := j % 4) (i := 1 + (j : Int)) h (tame_whole mr) (by omega) hno (by omega) (by rw [wl_length]; omega) hWb hk hroom (body j) (hbd j) (1 + P) (by omega) (by omega)
  rw [show wl body 0 (j + 1) = wl body 0 j ++ [⟨((j % 4 : Nat) : Int), 1 + (j : Int), 1, body j⟩] from by rw [wl_snoc, Nat.zero_add]; rfl]
  rw [show ((1 + P : Nat) : Int) = 1 + (P : Int) by omega] at this
  refine Calls.mono this ?_
  rintro r w' ⟨e, o', x, y, h1, h2⟩
  exact ⟨e, o', ⟨x, y, h1⟩, h2⟩

theorem fit_whole (mr : Int) (k : Nat) (hk : k ≤ 12) (hbd : ∀ i, (body i).size ≤ 500) : (mkW (whC mr) (conN 4) (wl body 0 k) (newSlot 1)).Fit 20000 := by
  refine ⟨⟨?_, ?_⟩, ⟨?_, ?_, ?_⟩, ?_⟩
  · intro j _
    refine .inl ?_
    show (oneSlot (newSlot 1) j).conn = -1
    unfold oneSlot
    split <;> rfl
  · intro r hr
    obtain ⟨i, h1, h2, rfl⟩ := wl_mem k 0 r hr
    exact ⟨i % 4, by omega, rfl⟩
  · show (wl body 0 k).length ≤ _
    rw [wl_length]; omega
  · intro j hj
    show (conN 4 j).sent.length ≤ _
    unfold conN; rw [if_pos hj]; exact Nat.zero_le _
  · intro r hr
    obtain ⟨i, h1, h2, rfl⟩ := wl_mem k 0 r hr
    have := hbd i
    show (body i).size ≤ 1000
    omega
  · intro j hj
    show (conN 4 j).rest.size ≤ _
    unfold conN; rw [if_pos hj]; exact Nat.zero_le _

theorem waits_whole (mr : Int) (k : Nat) : (mkW (whC mr) (conN 4) (wl body 0 k) (newSlot 1)).waits.length = k := by
  have : ∀ n i, ((wl body i n).filter fun r => r.stage == 1).length = n := by
    intro n
    induction n with
    | zero => intro i; rfl
    | succ n ih =>
      intro i
      show ((rq body i :: wl body (i + 1) n).filter fun r => r.stage == 1).length = _
      rw [List.filter_cons_of_pos rfl, List.length_cons, ih]
  unfold PM.waits
  rw [List.length_map]
  exact this k 0

theorem whC_ok {mr : Int} (h0 : 0 ≤ mr) (h1 : mr < 4) : (whC mr).ok = true := by
  unfold whC Cfg.ok
  simp only [Bool.and_eq_true, Bool.or_eq_true, decide_eq_true_eq]
  refine ⟨⟨⟨⟨?_, ?_⟩, ?_, ?_⟩, ⟨?_, ?_⟩, ?_, ?_⟩, .inl rfl⟩ <;> omega
end
end Go.Proofs.Ytlafkpaljibonaa
