import Derived.Test.YtlafkpaljibonabJ9
namespace Go.Proofs.Ytlafkpaljibonab
open Go.RowKit

section
variable {o : Nat → Tag} {w w' : World} {b B : Nat} {M : PM} {sv : Nat → Value} {rv : Value}

/-- One foreman, alone. -/
def Solo (o : Nat → Tag) (w : World) (b : Nat) (m : PM) : Prop := ∃ sv rv, FMem o 1 w b m sv rv

theorem Solo.clean (h : Solo o w b M) : Clean o w := by obtain ⟨_, _, h⟩ := h; exact h.clean
theorem Solo.below (h : Solo o w b M) (hb : Below w.heap.size w w') : Solo o w' b M := by obtain ⟨x, y, h⟩ := h; exact ⟨x, y, h.below hb⟩

/-- What a refused event leaves: all as it was. -/
def Still (o : Nat → Tag) (w : World) (b : Nat) (M : PM) (w' : World) : Prop := ∃ o', Solo o' w' b M ∧ Fr 1 o w o' w'
theorem Left.still (h : Left o 1 w b M w') : Still o w b M w' := by obtain ⟨o', x, y, h1, h2⟩ := h; exact ⟨o', ⟨x, y, h1⟩, h2⟩

theorem refuse_spawned (h : Solo o w b M) (n : Int) (e : Int) (he : M.stE n 1 = e) (h0 : (e == 0) = false) :
    Calls Try.prog 23 #[.pointer (some ⟨b, 0, none⟩), .int .i64 n] w fun r w' => r = .returned (.int .i64 e) ∧ Still o w b M w' := by
  obtain ⟨_, _, h⟩ := h
  refine (spawned_left h n).mono ?_
  rintro r w' ⟨e1, hl⟩
  have : M.afterSpawned n = M := by unfold PM.afterSpawned; rw [he, h0]; rfl
  rw [this] at hl
  exact ⟨by rw [e1, he], hl.still⟩
theorem refuse_finished (h : Solo o w b M) (hf : M.Fit B) (hB : B ≤ 48000000) (n : Int) (e : Int) (he : M.stE n 3 = e) (h0 : (e == 0) = false) :
    Calls Try.prog 25 #[.pointer (some ⟨b, 0, none⟩), .int .i64 n] w fun r w' => r = .returned (.int .i64 e) ∧ Still o w b M w' := by
  obtain ⟨_, _, h⟩ := h
  refine (finished_left h (by omega) hf hB n).mono ?_
  rintro r w' ⟨e1, hl⟩
  have : M.afterFinished n = M := by unfold PM.afterFinished; rw [he, h0]; rfl
  rw [this] at hl
  exact ⟨by rw [e1, he], hl.still⟩
theorem refuse_output (h : Solo o w b M) (hf : M.Fit B) (hB : B ≤ 48000000) (n : Int) (s : ByteArray) (hs : s.size ≤ 100) (e : Int) (he : M.stE n 3 = e) (h0 : (e == 0) = false) :
    Calls Try.prog 24 #[.pointer (some ⟨b, 0, none⟩), .int .i64 n, .string s] w fun r w' => r = .returned (.int .i64 e) ∧ Still o w b M w' := by
  obtain ⟨_, _, h⟩ := h
  refine (output_left h (by omega) hf hB n s (by omega)).mono ?_
  rintro r w' ⟨e1, hl⟩
  have : M.afterOutput n s = M := by unfold PM.afterOutput; rw [he, h0]; rfl
  rw [this] at hl
  exact ⟨by rw [e1, he], hl.still⟩
theorem refuse_died (h : Solo o w b M) (hf : M.Fit B) (hB : B ≤ 48000000) (n : Int) (e : Int) (he : M.diedE n = e) (h0 : (e == 0) = false) :
    Calls Try.prog 26 #[.pointer (some ⟨b, 0, none⟩), .int .i64 n] w fun r w' => r = .returned (.int .i64 e) ∧ Still o w b M w' := by
  obtain ⟨_, _, h⟩ := h
  refine (died_left h (by omega) hf hB n).mono ?_
  rintro r w' ⟨e1, hl⟩
  have : M.afterDied n = M := by unfold PM.afterDied; rw [he, h0]; rfl
  rw [this] at hl
  exact ⟨by rw [e1, he], hl.still⟩
theorem solo_slot (h : Solo o w b M) (n : Int) (hn : isS n = false) :
    Calls Try.prog 32 #[.pointer (some ⟨b, 0, none⟩), .int .i64 n] w fun r w' => r = .returned (.tuple #[.agg #[.int .i64 0, .bool false, .int .i64 0, .int .i64 0, .int .i64 0, .int .i64 0], .int .i64 5]) ∧ Below w.heap.size w w' := by
  obtain ⟨_, _, h⟩ := h
  have := slot_any h n
  unfold PM.slotV slotE at this
  rw [hn] at this
  exact this
theorem solo_job (h : Solo o w b M) (n : Int) (hn : isS n = false) :
    Calls Try.prog 33 #[.pointer (some ⟨b, 0, none⟩), .int .i64 n] w fun r w' => r = .returned (.tuple #[.string ⟨#[]⟩, .int .i64 5]) ∧ w' = w := by
  obtain ⟨_, _, h⟩ := h
  have := job_any h n
  unfold PM.jobV PM.jobE PM.stE at this
  rw [hn] at this
  exact this

set_option maxRecDepth 100000 in
set_option maxHeartbeats 8000000 in
theorem workers_any (h : Solo o w b M) (hf : M.Fit B) (hB : B ≤ 48000000) (n : Int) (bv : Value) (t : Int) (rr : Bool) :
    Calls Try.prog 21 #[.pointer (some ⟨b, 0, none⟩), .int .i64 n, .agg (lookC M 4 6 bv t rr).toArray] w fun r w' => r = .returned (.bool true) ∧ Still o w b M w' := by
  have hS := out_S n
  have ks : Hid (∀ w', Calls Try.prog 19 #[.int .i64 n, .int .i64 6] w' fun r w'' => r = .returned (.int .i64 (outI n 6)) ∧ w'' = w') := fun w' => outside_any n 6 w' (by omega) (by omega)
  generalize outI n 6 = S at *
  have e1 : M.stE S 1 = 5 := by unfold PM.stE; rw [hS]; rfl
  have e3 : M.stE S 3 = 5 := by unfold PM.stE; rw [hS]; rfl
  have e0 : M.diedE S = 5 := by unfold PM.diedE; rw [hS]; rfl
  have x0 := Blk.made w 45 (lookC M 4 6 bv t rr)
  have hb0 : Below w.heap.size w (w.alloc (.cells (lookC M 4 6 bv t rr).toArray 45)) := (Below.refl _ _).alloc (Nat.le_refl _) _
  have hst : ∀ k, k < 6 → (lookC M 4 6 bv t rr)[8 + k * 6]? = some (.int .i64 (M.slot k).st) := by
    intro k hk
    rcases k with _ | _ | _ | _ | _ | _ | k <;> first | rfl | omega
  have hcl := h.clean _ (Nat.le_refl w.heap.size)
  have h1 := h.below hb0
  have fr1 := Fr.of_below (q := 1) h.clean hb0
  generalize lookC M 4 6 bv t rr = LL at *
  go_enter Try.func21, Try.ntmps21
  go_wp2_with fail
  refine (ks.out _).mono ?_
  rintro e w1 ⟨rfl, rfl⟩
  have x1 : Blk (w.alloc (.cells LL.toArray 45)) w.heap.size 45 LL := x0
  clear x0 hb0
  generalize w.alloc (.cells LL.toArray 45) = w0 at *
  go_wp2_with fail
  refine (refuse_spawned h1 S 5 e1 rfl).mono ?_
  rintro e w2 ⟨rfl, o2, h2, fr2⟩
  go_wp2_with fail
  refine (refuse_output h2 hf hB S _ (by decide) 5 e3 rfl).mono ?_
  rintro e w3 ⟨rfl, o3, h3, fr3⟩
  go_wp2_with fail
  refine (refuse_finished h3 hf hB S 5 e3 rfl).mono ?_
  rintro e w4 ⟨rfl, o4, h4, fr4⟩
  go_wp2_with fail
  refine (refuse_died h4 hf hB S 5 e0 rfl).mono ?_
  rintro e w5 ⟨rfl, o5, h5, fr5⟩
  go_wp2_with fail
  refine (solo_slot h5 S hS).mono ?_
  rintro e w6 ⟨rfl, hb6⟩
  have hb6b : Below w6.heap.size w6 (w6.alloc (.cells #[.int .i64 0, .bool false, .int .i64 0, .int .i64 0, .int .i64 0, .int .i64 0] 40)) := (Below.refl _ _).alloc (Nat.le_refl _) _
  have h6 := (h5.below hb6).below hb6b
  go_wp2_with fail
  refine (solo_job h6 S hS).mono ?_
  rintro e w7 ⟨rfl, rfl⟩
  have frA : Fr 1 o w o5 _ := (((((fr1.trans fr2).trans fr3).trans fr4).trans fr5).below hb6).below hb6b
  have frB : Fr 1 o w0 o5 _ := ((((fr2.trans fr3).trans fr4).trans fr5).below hb6).below hb6b
  have x6 := x1.keep (frB.block _ x1.lt (by rw [hcl]; simp))
  have t6 : o5 w.heap.size = (0, 0) := (frB.tags _ x1.lt).trans hcl
  clear h1 h2 h3 h4 h5 fr1 fr2 fr3 fr4 fr5 hb6 hb6b x1 frB ks e1 e3 e0 hS
  go_wp2
  go_loopw [16] (fun i w' => ∃ k : Nat, k ≤ 6 ∧ i = .int .i64 k ∧ ∃ o', Solo o' w' b M ∧ Fr 1 o w o' w' ∧ Blk w' w.heap.size 45 LL ∧ o' w.heap.size = (0, 0)) (fun i _ => 6 - (intOf i).toNat)
  case atStart => exact ⟨0, by omega, rfl, o5, h6, frA, x6, t6⟩
  case round =>
    clear h6 frA x6 t6
    obtain ⟨k, hk, rfl, o1, h1, fr1, x1, t1⟩ := hrel
    by_cases hlt : k < 6
    · have hkI : (k : Int) < 6 := by omega
      have es : isS (k : Int) = true := by simp [isS]; omega
      have c0 := x1.cell (hst k hlt)
      have next : Hid (∀ o2 w2, Solo o2 w2 b M → Fr 1 o1 wr o2 w2 → ∃ o', Solo o' w2 b M ∧ Fr 1 o w o' w2 ∧ Blk w2 w.heap.size 45 LL ∧ o' w.heap.size = (0, 0)) := fun o2 w2 a f => ⟨o2, a, fr1.trans f, x1.keep (f.block _ x1.lt (by rw [t1]; simp)), (f.tags _ x1.lt).trans t1⟩
      have E1 : (M.slot k).st ≠ 1 → M.stE (k : Int) 1 = 6 := fun hne => by unfold PM.stE; rw [es]; simp only [cond_true, Int.toNat_natCast]; rw [show ((M.slot k).st == 1) = false from by simpa using hne]; rfl
      have E3 : (M.slot k).st ≠ 3 → M.stE (k : Int) 3 = 6 := fun hne => by unfold PM.stE; rw [es]; simp only [cond_true, Int.toNat_natCast]; rw [show ((M.slot k).st == 3) = false from by simpa using hne]; rfl
      have E0 : (M.slot k).st = 0 → M.diedE (k : Int) = 6 := fun he => by unfold PM.diedE; rw [es]; simp only [cond_true, Int.toNat_natCast]; rw [he]; rfl
      clear hst x1
      generalize (M.slot k).st = st at *
      by_cases s1 : st = 1
      · have A := E3 (by omega)
        subst s1
        clear E1 E3 E0
        go_wp2_with fail
        refine (refuse_finished h1 hf hB k 6 A rfl).mono ?_
        rintro e w2 ⟨rfl, o2, h2, fr2⟩
        go_wp2_with fail
        refine (refuse_output h2 hf hB k _ (by decide) 6 A rfl).mono ?_
        rintro e w3 ⟨rfl, o3, h3, fr3⟩
        go_wp2
        exact ⟨⟨k + 1, by omega, by go_num, next.out _ _ h3 (fr2.trans fr3)⟩, by simp [intOf]; omega⟩
      · have A := E1 s1
        have g1 : (st == 1) = false := by simpa using s1
        by_cases s3 : st = 3
        · subst s3
          clear E1 E3 E0
          go_wp2_with fail
          refine (refuse_spawned h1 k 6 A rfl).mono ?_
          rintro e w2 ⟨rfl, o2, h2, fr2⟩
          go_wp2
          exact ⟨⟨k + 1, by omega, by go_num, next.out _ _ h2 fr2⟩, by simp [intOf]; omega⟩
        · have A3 := E3 s3
          have g3 : (st == 3) = false := by simpa using s3
          by_cases s0 : st = 0
          · have A0 := E0 s0
            subst s0
            clear E1 E3 E0
            go_wp2_with fail
            refine (refuse_spawned h1 k 6 A rfl).mono ?_
            rintro e w2 ⟨rfl, o2, h2, fr2⟩
            go_wp2_with fail
            refine (refuse_output h2 hf hB k _ (by decide) 6 A3 rfl).mono ?_
            rintro e w3 ⟨rfl, o3, h3, fr3⟩
            go_wp2_with fail
            refine (refuse_died h3 hf hB k 6 A0 rfl).mono ?_
            rintro e w4 ⟨rfl, o4, h4, fr4⟩
            go_wp2
            exact ⟨⟨k + 1, by omega, by go_num, next.out _ _ h4 ((fr2.trans fr3).trans fr4)⟩, by simp [intOf]; omega⟩
          · have g0 : (st == 0) = false := by simpa using s0
            clear E1 E3 E0
            go_wp2_with fail
            refine (refuse_spawned h1 k 6 A rfl).mono ?_
            rintro e w2 ⟨rfl, o2, h2, fr2⟩
            go_wp2_with fail
            refine (refuse_output h2 hf hB k _ (by decide) 6 A3 rfl).mono ?_
            rintro e w3 ⟨rfl, o3, h3, fr3⟩
            go_wp2
            exact ⟨⟨k + 1, by omega, by go_num, next.out _ _ h3 (fr2.trans fr3)⟩, by simp [intOf]; omega⟩
    · have hkI : ¬ ((k : Int) < 6) := by omega
      go_wp2
      go_ret
      exact ⟨rfl, o1, h1, fr1⟩
end
end Go.Proofs.Ytlafkpaljibonab

namespace Go.Proofs.Ytlafkpaljibonab
open Go.RowKit

section
variable {o o' : Nat → Tag} {w w' : World} {b B : Nat} {M : PM} {sv : Nat → Value} {rv : Value}

theorem refuse_reload (h : Solo o w b M) (c : Cfg) (hc : c.ok = false) :
    Calls Try.prog 18 #[.pointer (some ⟨b, 0, none⟩), c.val] w fun r w' => r = .returned (.int .i64 1) ∧ Still o w b M w' := by
  obtain ⟨_, _, h⟩ := h
  refine (reload_left h c).mono ?_
  rintro r w' ⟨e1, hl⟩
  have : M.afterReload c = M := by unfold PM.afterReload; rw [hc]; rfl
  rw [this] at hl
  exact ⟨by rw [e1]; unfold reloadC; rw [hc]; rfl, hl.still⟩
theorem refuse_connect (h : Solo o w b M) (n : Int) (e : Int) (he : M.connectE n = e) (hs : M.afterConnect n = M) :
    Calls Try.prog 9 #[.pointer (some ⟨b, 0, none⟩), .int .i64 n] w fun r w' => r = .returned (.int .i64 e) ∧ Still o w b M w' := by
  obtain ⟨_, _, h⟩ := h
  refine (connect_left h n).mono ?_
  rintro r w' ⟨e1, hl⟩
  rw [hs] at hl
  exact ⟨by rw [e1, he], hl.still⟩
theorem refuse_hangup (h : Solo o w b M) (hf : M.Fit B) (hB : B ≤ 48000000) (n : Int) (e : Int) (he : M.chk n = e) (h0 : (e == 0) = false) :
    Calls Try.prog 12 #[.pointer (some ⟨b, 0, none⟩), .int .i64 n] w fun r w' => r = .returned (.int .i64 e) ∧ Still o w b M w' := by
  obtain ⟨_, _, h⟩ := h
  refine (hangup_left h (by omega) hf hB n).mono ?_
  rintro r w' ⟨e1, hl⟩
  have : M.afterHangup n = M := by unfold PM.afterHangup; rw [he, h0]; rfl
  rw [this] at hl
  exact ⟨by rw [e1, he], hl.still⟩
theorem refuse_feed (h : Solo o w b M) (hf : M.Fit B) (hB : B ≤ 48000000) (n : Int) (s : ByteArray) (hs : s.size ≤ 100) (e : Int) (he : M.chk n = e) (h0 : (e == 0) = false) :
    Calls Try.prog 10 #[.pointer (some ⟨b, 0, none⟩), .int .i64 n, .string s] w fun r w' => r = .returned (.int .i64 e) ∧ Still o w b M w' := by
  obtain ⟨_, _, h⟩ := h
  refine (feed_left h (by omega) hf hB n s (by omega)).mono ?_
  rintro r w' ⟨e1, hl⟩
  have : M.afterFeed n s = M := by unfold PM.afterFeed; rw [he, h0]; rfl
  rw [this] at hl
  exact ⟨by rw [e1, he], hl.still⟩
theorem solo_open (h : Solo o w b M) (n : Int) (hn : isC n = false) :
    Calls Try.prog 13 #[.pointer (some ⟨b, 0, none⟩), .int .i64 n] w fun r w' => r = .returned (.bool false) ∧ w' = w := by
  obtain ⟨_, _, h⟩ := h
  have := open_any h n
  unfold PM.open_ at this
  rw [hn] at this
  exact this
theorem solo_sent (h : Solo o w b M) (n : Int) (hn : isC n = false) :
    Calls Try.prog 20 #[.pointer (some ⟨b, 0, none⟩), .int .i64 n] w fun r w' => r = .returned (.string ⟨#[]⟩) ∧ w' = w := by
  obtain ⟨_, _, h⟩ := h
  have := sent_any h n
  unfold PM.sent_ at this
  rw [hn] at this
  exact this
theorem solo_look (h : Solo o w b M) (hf : M.Fit B) (hB : B ≤ 48000000) :
    Calls Try.prog 14 #[.pointer (some ⟨b, 0, none⟩)] w fun r w' => ∃ a ca, r = .returned (.agg (lookC M 4 6 (.slice a M.waits.length ca) M.time true).toArray) ∧ w'.ownsRow w.heap.size 82 2 (.slice a M.waits.length ca) M.waits.length (keyCells M.waits) ∧ Below w.heap.size w w' := by
  obtain ⟨_, _, h⟩ := h
  refine (look_any h (by have := hf.small.req; omega)).mono ?_
  rintro r w' ⟨bv, e, own, hb⟩
  obtain ⟨a, ca, rfl, -, -⟩ := own_slice own
  exact ⟨a, ca, e, own, hb⟩
theorem solo_do (h : Solo o w b M) (hf : M.Fit B) (hB : B ≤ 48000000) (x : KSt) (hx : x.in64) (hs : x.s.size ≤ 100000000) :
    Calls Try.prog 8 #[.pointer (some ⟨b, 0, none⟩), x.val] w fun r w' => r = .returned (.int .i64 (M.doE x)) ∧ ∃ o', Solo o' w' b (M.doM x) ∧ FrN o w o' w' := by
  obtain ⟨_, _, h⟩ := h
  refine (do_any h (by omega) hf hB x hx hs).mono ?_
  rintro r w' ⟨e, o', x, y, h1, h2⟩
  exact ⟨e, o', ⟨x, y, h1⟩, h2.toN (by omega)⟩

theorem range_fr {bb oo : Nat} {L : List Value} (h : w.rangeAt bb oo L) (hb : bb < w.heap.size) (ht : o bb = (0, 0)) (hf : Fr 1 o w o' w') : w'.rangeAt bb oo L := fun j v hv => by
  rw [World.cell?_of_block (hf.block bb hb (by rw [ht]; simp))]; exact h j v hv

theorem own_fr {B n : Nat} {v : Value} {xs : List Value} (h : w.ownsRow B 82 2 v n xs) (ho : ∀ g, B ≤ g → o g = (0, 0)) (hf : Fr 1 o w o' w') : w'.ownsRow B 82 2 v n xs :=
  own_keepAt h (fun g hg => hf.block g (h.lt g hg).2 (by rw [ho g (h.lt g hg).1]; simp)) (Nat.le_refl _)

theorem chk_in {k : Nat} (hk : k < 4) (x : Bool) (hx : (M.con k).op = x) : M.chk (k : Int) = cond x 0 4 ∧ M.connectE (k : Int) = cond x 3 0 ∧ (x = true → M.afterConnect (k : Int) = M) := by
  have hC : isC (k : Int) = true := by simp [isC]; omega
  unfold PM.chk PM.connectE PM.afterConnect
  rw [hC]
  simp only [cond_true, Int.toNat_natCast, hx, Bool.true_and]
  exact ⟨by first | rfl | trivial, by first | rfl | trivial, fun e => by rw [e]; rfl⟩

theorem chk_out {n : Int} (hn : isC n = false) : M.chk n = 2 ∧ M.connectE n = 2 ∧ M.afterConnect n = M := by
  unfold PM.chk PM.connectE PM.afterConnect
  rw [hn]
  exact ⟨rfl, rfl, rfl⟩

set_option maxRecDepth 100000 in
set_option maxHeartbeats 8000000 in
theorem refused_any (c : Cfg) (hc : c.in64) (aX : Option Addr) (nX cX : Nat) (X : Nat → KSt) (n : Int) (hn : i64R n) (w : World)
    (hX : IsKSteps w aX nX X) (hX64 : ∀ k, k < nX → (X k).in64) (hsum : ktot X nX ≤ 40000000) :
    Calls Try.prog 4 #[c.val, .slice aX nX cX, .int .i64 n] w fun r w' => r = .returned (.bool true) ∧ Below w.heap.size w w' := by
  have kS : Hid (∀ w', Calls Try.prog 5 #[c.val] w' fun r w'' => r = .returned (setC c).val ∧ Below w'.heap.size w' w'') := fun w' => settings_any c hc w'
  have kO : Hid (∀ (o : Nat → Tag) w', Clean o w' → Calls Try.prog 6 #[(setC c).val] w' fun r w'' => ∃ b o', r = .returned (.pointer (some ⟨b, 0, none⟩)) ∧ FMem o' 1 w'' b (newPM (setC c)) nilV (.slice none 0 0) ∧ Fr 1 o w' o' w'') := fun o w' ho => opened_any (setC c) (setC_ok c) ho
  have hsm : i64R ((setC c).mx + 1) ∧ i64R ((setC c).ch + 1) := by
    have hk := setC_ok c
    have p1 := pickI_bd c.ch 6 (by omega)
    have p2 := pickI_bd c.mn (1 + pickI c.ch 6) (by omega)
    have p3 := pickI_bd c.mx (1 + pickI c.ch 6 - (1 + pickI c.mn (1 + pickI c.ch 6)) + 1) (by omega)
    unfold i64R setC
    simp only []
    omega
  have kN : Hid (∀ w', Calls Try.prog 16 #[(setC c).val, .int .i64 n] w' fun r w'' => r = .returned (noneC (setC c) (pickI n 8)).val ∧ Below w'.heap.size w' w'') := fun w' => none_any (setC c) n hn w' hsm.1 hsm.2
  have hYb := noneC_bad (setC c) (pickI n 8)
  have hF0 : (newPM (setC c)).Fit 0 := new_fit _
  have hgX := ktot_ge X nX
  generalize noneC (setC c) (pickI n 8) = YC at *
  generalize newPM (setC c) = m0 at *
  generalize setC c = SC at *
  have kY : Hid (∀ w', Calls Try.prog 17 #[YC.val] w' fun r w'' => r = .returned (.tuple #[.pointer none, .int .i64 1]) ∧ Below w'.heap.size w' w'') := fun w' => new_no YC w' hYb
  have kR : Hid (∀ (o : Nat → Tag) w' (b : Nat) (M : PM), Solo o w' b M → Calls Try.prog 18 #[.pointer (some ⟨b, 0, none⟩), .agg YC.cells.toArray] w' fun r w'' => r = .returned (.int .i64 1) ∧ Still o w' b M w'') := fun o w' b M h => refuse_reload h YC hYb
  have hO := out_C n
  have kP : Hid (∀ w', Calls Try.prog 19 #[.int .i64 n, .int .i64 4] w' fun r w'' => r = .returned (.int .i64 (outI n 4)) ∧ w'' = w') := fun w' => outside_any n 4 w' (by omega) (by omega)
  generalize outI n 4 = KK at *
  clear hsm hYb
  unfold Cfg.val at *
  have hb0 : Below w.heap.size w (w.alloc (.cells #[.int .i64 c.ch, .bool c.dyn, .int .i64 c.mn, .int .i64 c.mx, .int .i64 c.mr, .int .i64 c.tmo, .int .i64 c.bl] 23)) := (Below.refl _ _).alloc (Nat.le_refl _) _
  go_enter Try.func4, Try.ntmps4
  go_wp2_with fail
  refine (kS.out _).mono ?_
  rintro e w1 ⟨rfl, hb1⟩
  have hb01 := hb0.trans (hb1.mono hb0.size)
  have hbx : Below w1.heap.size w1 (w1.alloc (.cells #[.int .i64 SC.ch, .bool SC.dyn, .int .i64 SC.mn, .int .i64 SC.mx, .int .i64 SC.mr, .int .i64 SC.tmo, .int .i64 SC.bl] 23)) := (Below.refl _ _).alloc (Nat.le_refl _) _
  have x0 := Blk.made w1 23 SC.cells
  have hb2 := hb01.trans (hbx.mono hb01.size)
  clear hb0 hb1
  go_wp2_with fail
  have x1 : Blk (w1.alloc (.cells #[.int .i64 SC.ch, .bool SC.dyn, .int .i64 SC.mn, .int .i64 SC.mx, .int .i64 SC.mr, .int .i64 SC.tmo, .int .i64 SC.bl] 23)) w1.heap.size 23 SC.cells := x0
  clear x0 hbx
  generalize w1.alloc (.cells #[.int .i64 SC.ch, .bool SC.dyn, .int .i64 SC.mn, .int .i64 SC.mx, .int .i64 SC.mr, .int .i64 SC.tmo, .int .i64 SC.bl] 23) = w2 at *
  refine (kO.out noK _ (fun _ _ => rfl)).mono ?_
  rintro e w3 ⟨fb, o3, rfl, hm3, fr3⟩
  have x3 := x1.keep (fr3.block _ x1.lt (by simp [noK]))
  have d0 := x3.cell (k := 0) (u := .int .i64 SC.ch) rfl
  have d1 := x3.cell (k := 1) (u := .bool SC.dyn) rfl
  have d2 := x3.cell (k := 2) (u := .int .i64 SC.mn) rfl
  have d3 := x3.cell (k := 3) (u := .int .i64 SC.mx) rfl
  have d4 := x3.cell (k := 4) (u := .int .i64 SC.mr) rfl
  have d5 := x3.cell (k := 5) (u := .int .i64 SC.tmo) rfl
  have d6 := x3.cell (k := 6) (u := .int .i64 SC.bl) rfl
  go_wp2_with fail
  refine (kN.out _).mono ?_
  rintro e w4 ⟨rfl, hb4⟩
  clear d0 d1 d2 d3 d4 d5 d6 x1 x3
  have yb0 := Blk.made w4 23 YC.cells
  have hby : Below w4.heap.size w4 (w4.alloc (.cells #[.int .i64 YC.ch, .bool YC.dyn, .int .i64 YC.mn, .int .i64 YC.mx, .int .i64 YC.mr, .int .i64 YC.tmo, .int .i64 YC.bl] 23)) := (Below.refl _ _).alloc (Nat.le_refl _) _
  have s4 : Solo o3 _ fb m0 := ⟨_, _, (hm3.below hb4).below hby⟩
  have fx4 : FrN noK w o3 _ := (((FrN.of_below (o := noK) (fun _ _ => rfl) hb2).trans (fr3.toN (by omega))).below hb4).below hby
  have yt : o3 w4.heap.size = (0, 0) := (hm3.below hb4).clean _ (Nat.le_refl _)
  go_wp2_with fail
  have yb1 : Blk (w4.alloc (.cells #[.int .i64 YC.ch, .bool YC.dyn, .int .i64 YC.mn, .int .i64 YC.mx, .int .i64 YC.mr, .int .i64 YC.tmo, .int .i64 YC.bl] 23)) w4.heap.size 23 YC.cells := yb0
  clear yb0 hby hm3 fr3 hb4 hb2 hb01 kO kS kN
  generalize w4.alloc (.cells #[.int .i64 YC.ch, .bool YC.dyn, .int .i64 YC.mn, .int .i64 YC.mx, .int .i64 YC.mr, .int .i64 YC.tmo, .int .i64 YC.bl] 23) = w5 at *
  refine (kY.out _).mono ?_
  rintro e w6 ⟨rfl, hb6⟩
  have s6 := s4.below hb6
  have fx6 := fx4.below hb6
  have yb6 := yb1.below hb6
  clear s4 fx4 yb1 hb6 kY
  go_wp2
  go_loopw [12] (fun i w' => ∃ j : Nat, j ≤ nX ∧ i = .int .i64 j ∧ ∃ o', Solo o' w' fb (m0.doTo X j) ∧ FrN noK w o' w' ∧ Blk w' w4.heap.size 23 YC.cells ∧ o' w4.heap.size = (0, 0)) (fun i _ => nX - (intOf i).toNat)
  case atStart => exact ⟨0, by omega, rfl, o3, s6, fx6, yb6, yt⟩
  case round =>
    clear s6 fx6 yb6 yt
    obtain ⟨j, hj, rfl, o1, s1, fx1, yb1, yt1⟩ := hrel
    by_cases hlt : j < nX
    · obtain ⟨bb, off, rfl, hcell⟩ : ∃ bb off, aX = some ⟨bb, off, none⟩ ∧ ∀ o' w', FrN noK w o' w' → ∀ i u, ((X j).cells)[i]? = some u → w'.cell? ⟨bb, off + j * 12 + i, none⟩ = some u := by
        rcases hX with e | ⟨bb, off, e, hbl, hcc⟩
        · omega
        · exact ⟨bb, off, e, fun o' w' hf i u hu => by rw [World.cell?_of_block (hf.block bb hbl rfl)]; exact hcc j hlt i u hu⟩
      have hjI : (j : Int) < nX := by omega
      have hFit : (m0.doTo X j).Fit (0 + ktot X j) := hF0.doTo X j
      have hkt := ktot_mono X (show j + 1 ≤ nX from hlt)
      have hkt' : ktot X (j + 1) = ktot X j + (X j).s.size + 520 := rfl
      have hx64 := hX64 j hlt
      have HD : Hid (m0.doTo X (j + 1) = (m0.doTo X j).doM (X j)) := rfl
      have D1 : Hid (∀ o' w', Solo o' w' fb (m0.doTo X j) → Calls Try.prog 8 #[.pointer (some ⟨fb, 0, none⟩), .agg (X j).cells.toArray] w' fun r w'' => r = .returned (.int .i64 ((m0.doTo X j).doE (X j))) ∧ ∃ o'', Solo o'' w'' fb ((m0.doTo X j).doM (X j)) ∧ FrN o' w' o'' w'') := fun o' w' h' => solo_do h' hFit (by omega) (X j) hx64 (by omega)
      clear hFit hkt hkt' hx64
      generalize (m0.doTo X j).doM (X j) = M2 at *
      generalize (m0.doTo X j).doE (X j) = EE at *
      generalize m0.doTo X j = M1 at *
      have hI := kst_info (X j)
      generalize (X j).cells = VC at *
      have r1 : wr.rangeAt bb (off + j * 12) VC := fun i v hv => hcell _ _ fx1 i v hv
      go_wp2_with (refine wpList_load_mid rfl 32 _ rfl bb (off + j * 12) rfl VC _ r1 Try.underlying32 rfl hI ?_)
      refine (D1.out _ _ s1).mono ?_
      rintro e w7 ⟨rfl, o7, s7, fx7⟩
      clear r1
      go_wp2
      exact ⟨⟨j + 1, by omega, by go_num, o7, by rw [HD.out]; exact s7, fx1.trans fx7, yb1.keep (fx7.block _ yb1.lt (by rw [yt1])), (fx7.tags _ yb1.lt).trans yt1⟩, by simp [intOf]; omega⟩
    · have hjn : j = nX := by omega
      have hjI : ¬ ((j : Int) < nX) := by omega
      subst hjn
      have hFit := hF0.doTo X j
      generalize m0.doTo X j = M at *
      have hB : 0 + ktot X j ≤ 48000000 := by omega
      generalize 0 + ktot X j = B at *
      obtain ⟨k1, k2, k3⟩ := chk_out (M := M) hO
      go_wp2_with fail
      refine (solo_look s1 hFit hB).mono ?_
      rintro e w7 ⟨aa, ca, rfl, oa, ba⟩
      have hwl : M.waits.length ≤ 1000000000000 := by
        have : M.waits.length ≤ M.req.length := by simp only [PM.waits, List.length_map]; exact List.length_filter_le _ _
        have := hFit.small.req
        omega
      have hIa := lookC_info M (.slice aa M.waits.length ca) M.time true
      have hOa := lookC_one M aa M.waits.length ca M.time true
      have hOp : ∀ k, k < 4 → (lookC M 4 6 (.slice aa M.waits.length ca) M.time true)[k]? = some (.bool (M.con k).op) := by
        intro k hk
        rcases k with _ | _ | _ | _ | k <;> first | rfl | omega
      obtain ⟨tha, bla, rga, hlta⟩ := put_look w7 (lookC M 4 6 (.slice aa M.waits.length ca) M.time true) rfl
      have AK : Hid (∀ w' B1 B2 (bb2 : Option Addr) cb2, w'.ownsRow B1 82 2 (.slice aa M.waits.length ca) M.waits.length (keyCells M.waits) → w'.ownsRow B2 82 2 (.slice bb2 M.waits.length cb2) M.waits.length (keyCells M.waits) → Calls Try.prog 15 #[.agg (lookC M 4 6 (.slice aa M.waits.length ca) M.time true).toArray, .agg (lookC M 4 6 (.slice bb2 M.waits.length cb2) M.time true).toArray] w' fun r w'' => r = .returned (.bool true) ∧ Below w'.heap.size w' w'') := fun w' B1 B2 bb2 cb2 x y => alike_any M x y hwl
      have WK : Hid (∀ o' w', Solo o' w' fb M → Calls Try.prog 21 #[.pointer (some ⟨fb, 0, none⟩), .int .i64 n, .agg (lookC M 4 6 (.slice aa M.waits.length ca) M.time true).toArray] w' fun r w'' => r = .returned (.bool true) ∧ Still o' w' fb M w'') := fun o' w' h' => workers_any h' hFit hB n _ _ _
      generalize lookC M 4 6 (.slice aa M.waits.length ca) M.time true = LA at *
      have hIy := cfg_info YC
      generalize YC.cells = YL at *
      have s8 := (s1.below ba).below bla
      have fx8 := (fx1.below ba).below bla
      have yb8 := (yb1.below ba).below bla
      have ry8 : World.rangeAt _ w4.heap.size 0 YL := fun j v hv => yb8.cell (by simpa using hv)
      have hcl1 : ∀ g, wr.heap.size ≤ g → o1 g = (0, 0) := s1.clean
      have oa8 := look_own oa bla
      have wt : o1 w7.heap.size = (0, 0) := hcl1 _ ba.size
      clear yb1 yb8 ba bla oa
      go_wp2_with (first | (refine wpList_store_mid rfl 45 _ _ rfl w7.heap.size 0 LA.toArray rfl rfl tha (by simpa using hIa) hOa ?_) | (refine wpList_load_mid rfl 23 _ rfl w4.heap.size 0 rfl YL _ ry8 Try.underlying23 rfl hIy ?_))
      refine (kR.out _ _ _ _ s8).mono ?_
      rintro e w9 ⟨rfl, o9, s9, fr9⟩
      clear tha ry8 s8 hOa kR
      generalize (w7.alloc (.cells zeroL.toArray 45)).setCells w7.heap.size 0 LA = W8 at *
      go_wp2_with fail
      refine (kP.out _).mono ?_
      rintro e w10 ⟨rfl, rfl⟩
      go_wp2_with fail
      refine (refuse_connect s9 KK 2 k2 k3).mono ?_
      rintro e w11 ⟨rfl, o11, s11, fr11⟩
      go_wp2_with fail
      refine (refuse_hangup s11 hFit hB KK 2 k1 rfl).mono ?_
      rintro e w12 ⟨rfl, o12, s12, fr12⟩
      go_wp2_with fail
      refine (refuse_feed s12 hFit hB KK _ (by decide) 2 k1 rfl).mono ?_
      rintro e w13 ⟨rfl, o13, s13, fr13⟩
      go_wp2_with fail
      refine (solo_open s13 KK hO).mono ?_
      rintro e w14 ⟨rfl, rfl⟩
      go_wp2_with fail
      refine (solo_sent s13 KK hO).mono ?_
      rintro e w15 ⟨rfl, rfl⟩
      have F13 := ((fr9.trans fr11).trans fr12).trans fr13
      have rg13 := range_fr rga hlta wt F13
      clear s9 s11 s12 fr9 fr11 fr12 fr13
      go_wp2_with (refine wpList_load_mid rfl 45 _ rfl w7.heap.size 0 rfl LA _ rg13 Try.underlying45 rfl hIa ?_)
      refine (WK.out _ _ s13).mono ?_
      rintro e w16 ⟨rfl, o16, s16, fr16⟩
      have F16 := F13.trans fr16
      clear rg13 s13 F13 fr16 WK
      go_wp2
      go_loopw [22] (fun i w' => ∃ k : Nat, k ≤ 4 ∧ i = .int .i64 k ∧ ∃ o', Solo o' w' fb M ∧ Fr 1 o1 W8 o' w') (fun i _ => 4 - (intOf i).toNat)
      case atStart => exact ⟨0, by omega, rfl, o16, s16, F16⟩
      case round =>
        clear s16 F16
        obtain ⟨k, hk, rfl, o2, s2, F2⟩ := hrel
        by_cases hlt : k < 4
        · have hkI : (k : Int) < 4 := by omega
          have rg2 := range_fr rga hlta wt F2
          have cO := rg2 k _ (hOp k hlt)
          rw [Nat.zero_add] at cO
          clear rg2 hOp
          cases hop : (M.con k).op
          · obtain ⟨a1, a2, -⟩ := chk_in hlt false hop
            rw [hop] at cO
            simp only [cond_false] at a1 a2
            go_wp2_with fail
            refine (refuse_hangup s2 hFit hB k 4 a1 rfl).mono ?_
            rintro e w3 ⟨rfl, o3, s3, fr3⟩
            go_wp2_with fail
            refine (refuse_feed s3 hFit hB k _ (by decide) 4 a1 rfl).mono ?_
            rintro e w5 ⟨rfl, o5, s5, fr5⟩
            go_wp2
            exact ⟨⟨k + 1, by omega, by go_num, o5, s5, (F2.trans fr3).trans fr5⟩, by simp [intOf]; omega⟩
          · obtain ⟨a1, a2, a3⟩ := chk_in hlt true hop
            rw [hop] at cO
            simp only [cond_true] at a1 a2
            go_wp2_with fail
            refine (refuse_connect s2 k 3 a2 (by first | exact a3 rfl | exact a3 trivial | exact a3)).mono ?_
            rintro e w3 ⟨rfl, o3, s3, fr3⟩
            go_wp2
            exact ⟨⟨k + 1, by omega, by go_num, o3, s3, F2.trans fr3⟩, by simp [intOf]; omega⟩
        · have hkI : ¬ ((k : Int) < 4) := by omega
          go_wp2_with fail
          refine (solo_look s2 hFit hB).mono ?_
          rintro e w8 ⟨ab, cb, rfl, ob, bb8⟩
          have hIb := lookC_info M (.slice ab M.waits.length cb) M.time true
          have hOb := lookC_one M ab M.waits.length cb M.time true
          obtain ⟨thb, blb, rgb, -⟩ := put_look w8 (lookC M 4 6 (.slice ab M.waits.length cb) M.time true) rfl
          have AK2 : Hid (∀ w' B1 B2, w'.ownsRow B1 82 2 (.slice aa M.waits.length ca) M.waits.length (keyCells M.waits) → w'.ownsRow B2 82 2 (.slice ab M.waits.length cb) M.waits.length (keyCells M.waits) → Calls Try.prog 15 #[.agg LA.toArray, .agg (lookC M 4 6 (.slice ab M.waits.length cb) M.time true).toArray] w' fun r w'' => r = .returned (.bool true) ∧ Below w'.heap.size w' w'') := fun w' B1 B2 x y => AK.out w' B1 B2 ab cb x y
          clear AK
          generalize lookC M 4 6 (.slice ab M.waits.length cb) M.time true = LB at *
          have oa9 := look_own (look_own (own_fr oa8 hcl1 F2) bb8) blb
          have ob9 := look_own ob blb
          have rg2 := range_fr rga hlta wt F2
          have hlt2 := Nat.lt_of_lt_of_le hlta F2.size
          have rg8 := range_below rg2 hlt2 bb8
          have hlt8 := Nat.lt_of_lt_of_le hlt2 bb8.size
          have rg9 := range_below rg8 hlt8 blb
          have fxE := ((fx8.trans (F2.toN (by omega))).below bb8).below blb
          clear rg2 rg8 rga oa8 ob bb8
          go_wp2_with (first | (refine wpList_store_mid rfl 45 _ _ rfl w8.heap.size 0 LB.toArray rfl rfl thb (by simpa using hIb) hOb ?_) | (refine wpList_load_mid rfl 45 _ rfl w7.heap.size 0 rfl LA _ rg9 Try.underlying45 rfl hIa ?_) | (refine wpList_load_mid rfl 45 _ rfl w8.heap.size 0 rfl LB _ rgb Try.underlying45 rfl hIb ?_))
          refine (AK2.out _ _ _ oa9 ob9).mono ?_
          rintro e w10 ⟨rfl, b10⟩
          clear rg9 rgb thb
          go_wp2
          go_ret
          have fxF := fxE.below b10
          exact ⟨rfl, fxF.os, fxF.tape, fxF.output, fxF.size, fun g hg => fxF.block g hg rfl⟩
end
end Go.Proofs.Ytlafkpaljibonab

namespace Go.Proofs.Ytlafkpaljibonab.refused
open Go.ChangeShapes Go.WideShapes Go.ChangeAt Go.RowKit Go.Joins Go.Deep Go.Proofs.Ytlafkpaljibonab Go.Proofs.Ytlafkpaljibonab.kscript

set_option maxRecDepth 100000 in
theorem contract (H : Type) (enc : TypeId × Value → H) (W : World) (base : Nat) (args : Array Value) (ds gs : List (DataW H)) (before : List MemPlace)
    (hval : ∀ (j : Nat) t v, Try.f4.params[j]? = some t → args[j]? = some v → Value.okWide Try.prog W .any base t v)
    (hW : DataW.Whole enc Try.prog Try.f4.params.toList Rows.refusedSpec.vars false W args.toList ds gs before) (hk : Rows.uptoSmall H (ds ++ gs) = true) :
    Calls Try.prog 4 args W fun e W' => ∃ v, e = .returned v ∧ Rows.refusedSpec.post enc Try.prog Try.f4 false true false false W args v W' := by
  have hW' := hW
  obtain ⟨p, q, hA0, hV, rfl, hfz, hnd⟩ := hW
  have hA : DataW.TrodAll enc Try.prog W 0 (fun _ => true) true Try.f4.params.toList args.toList ds p := hA0
  rw [Try.params4] at hA hval
  obtain ⟨v0, vs0, d0, ds0, p0, q0, hargs, rfl, rfl, h0, r0⟩ := trodAll_cons hA
  obtain ⟨v1, vs1, d1, ds1, p1, q1, rfl, rfl, rfl, h1, r1⟩ := trodAll_cons r0
  obtain ⟨v2, vs2, d2, ds2, p2, q2, rfl, rfl, rfl, h2, r2⟩ := trodAll_cons r1
  obtain ⟨rfl, rfl, rfl⟩ := trodAll_nil r2
  obtain rfl : args = #[v0, v1, v2] := by cases args; simp_all
  obtain ⟨rfl, rfl⟩ := trodVars_none hV
  have k0 := h0
  have k1 := h1
  have lt0 : ∀ x ∈ p0, x.block < W.heap.size := by obtain ⟨m, hm⟩ := k0; exact DataW.trod_lt m _ _ _ hm
  have lt1 : ∀ x ∈ p1, x.block < W.heap.size := by obtain ⟨m, hm⟩ := k1; exact DataW.trod_lt m _ _ _ hm
  obtain ⟨c, rfl, hc64⟩ := cfg_of (hval 0 23 v0 rfl rfl) h0
  obtain ⟨a1, len1, cap1, rfl⟩ := okWide_slice Try.underlying24 (hval 1 24 v1 rfl rfl)
  obtain ⟨conn, rfl, rfl, rfl, w2⟩ := open_int Try.underlying3 (hval 2 3 v2 rfl rfl) h2
  obtain ⟨X, hX, hX64, hXs⟩ := steps_of h1
  clear hA0
  simp only [List.append_nil] at hW' hk
  have hb : Rows.uptoBulkAll _ ≤ 1048576 := of_decide_eq_true hk
  simp only [Rows.uptoBulkAll, Rows.uptoBulk] at hb
  refine (refused_any c hc64 a1 len1 cap1 X conn (wf_bd w2) W hX hX64 (by omega)).mono fun e W' ⟨he, bel⟩ => ?_
  subst he
  exact ⟨_, rfl, _, _, _, [], _, [], hW', trodAll_mk1 (shut_bool Try.underlying4 _), (trodAll_cons_mk (Below.trod laidOut (by kernel_rfl) (of_decide_eq_true (by kernel_rfl)) k0 bel lt0) (trodAll_cons_mk (Below.trod laidOut (by kernel_rfl) (of_decide_eq_true (by kernel_rfl)) k1 bel lt1) (trodAll_cons_mk (shut_int Try.underlying3 w2) trodAll_mk0))), rfl, bel.frame _, fun h => by cases h⟩

set_option maxRecDepth 100000 in
theorem lifted (os : Os) (started : os.Started) (H : Type) (enc : TypeId × Value → H) (F : Stop.Interp) :
    ReturnsInHanded {} Try.checked os 4 .any ((Rows.OpenSpec.upto Rows.refusedSpec).pre6 enc Try.prog Try.f4 Rows.refusedUptoRow.domain false) (((Rows.OpenSpec.upto Rows.refusedSpec).at F).post enc Try.prog Try.f4 false true false false) := by
  refine returnsInHanded_of_cond (C := Try.checked) (s := Rows.OpenSpec.upto Rows.refusedSpec) (k := Rows.uptoSmall) rfl own started (by kernel_rfl) Try.func4
    (OpenSpec.witness (enc := enc) (C := Try.checked) (s := Rows.OpenSpec.upto Rows.refusedSpec) (k := Rows.uptoSmall) rfl false ⟨#[], #[.agg #[.int .i64 0, .bool false, .int .i64 0, .int .i64 0, .int .i64 0, .int .i64 0, .int .i64 0], .slice none 0 0, .int .i64 0], []⟩ 8 (by kernel_rfl) (by kernel_rfl) (by kernel_rfl)
      (x := ([.agg [.lit (.int .i64 0), .lit (.bool false), .lit (.int .i64 0), .lit (.int .i64 0), .lit (.int .i64 0), .lit (.int .i64 0), .lit (.int .i64 0)], .nil, .lit (.int .i64 0)], [], [])) (by kernel_rfl) rfl (by kernel_rfl)) ?_
  intro W base args ds gs before hval hW _ hk _
  exact contract H enc W base args ds gs before hval hW hk

set_option maxRecDepth 100000 in
theorem proved : Rows.RefusedUptoSaid :=
  OpenClaim.holds_of_cond 4 Try.f4 rfl rfl rfl rfl rfl rfl rfl ⟨rfl, rfl, rfl, rfl, rfl⟩ rfl rfl rfl rfl rfl (by kernel_rfl) Try.func4 (by kernel_rfl)
    (of_decide_eq_true (by kernel_rfl)) (by unfold Func.isWrapper; first | (rw [if_pos (by decide +kernel)]; kernel_rfl) | (rw [if_neg (by decide +kernel)]; exact ⟨rfl, rfl⟩))
    (fun os started H enc _ F => lifted os started H enc F)
#print axioms proved
end Go.Proofs.Ytlafkpaljibonab.refused
