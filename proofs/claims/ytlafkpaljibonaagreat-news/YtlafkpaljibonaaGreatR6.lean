import Derived.Test.YtlafkpaljibonaaGreatR5
namespace Go.Proofs.YtlafkpaljibonaaGreat
open Go.RowKit

def RM.startN (m : RM) : Nat → RM
  | 0 => m
  | n + 1 => cond (!m.set.dyn && decide (6 - m.cnt 0 < m.set.ch)) (m.starts.startN n) m
def RM.startAll (m : RM) : RM := m.startN 6

/-- No worker has started yet. -/
def RM.quiet (m : RM) : Prop := ∀ k, k < 6 → (m.slot k).st = 0 ∨ (m.slot k).st = 1

theorem RM.first_none (m : RM) (st : Int) (h : m.first st = none) (k : Nat) (hk : k < 6) : ((m.slot k).st == st) = false := by
  have gen : ∀ n j, m.fst st j n = none → ∀ k, j ≤ k → k < j + n → ((m.slot k).st == st) = false := by
    intro n
    induction n with
    | zero => intro j _ k h1 h2; omega
    | succ n ih =>
      intro j hj k h1 h2
      simp only [RM.fst] at hj
      cases hc : ((m.slot j).st == st)
      · rw [hc] at hj
        by_cases e : k = j
        · rw [e]; exact hc
        · exact ih (j + 1) hj k (by omega) (by omega)
      · rw [hc] at hj; simp at hj
  exact gen 6 0 h k (Nat.zero_le _) (by omega)

theorem RM.cnt_zero (m : RM) (st : Int) (h : m.first st = none) : m.cnt st = 0 := by
  have := RM.first_none m st h
  simp [RM.cnt, RM.cntTo, this 0, this 1, this 2, this 3, this 4, this 5]

theorem RM.cnt_starts (m : RM) (h : 0 < m.cnt 0) : ∃ k, k < 6 ∧ m.first 0 = some k ∧ m.starts = { m with slot := upd m.slot k startSlot } ∧ m.starts.cnt 0 = m.cnt 0 - 1 := by
  cases hf : m.first 0 with
  | none => rw [RM.cnt_zero m 0 hf] at h; omega
  | some k =>
    obtain ⟨-, hk, hs⟩ := m.fst_some 0 0 6 k hf
    have e : m.starts = { m with slot := upd m.slot k startSlot } := by simp only [RM.starts, hf]
    refine ⟨k, by omega, rfl, e, ?_⟩
    rw [e]
    rcases k with _ | _ | _ | _ | _ | _ | k
    all_goals first | omega | (simp [RM.cnt, RM.cntTo, upd, startSlot, hs]; omega) | (simp [RM.cnt, RM.cntTo, upd, startSlot, hs])

theorem RM.quiet_starts (m : RM) (h : m.quiet) : m.starts.quiet := by
  intro k hk
  unfold RM.starts
  cases m.first 0 with
  | none => exact h k hk
  | some j =>
    by_cases e : k = j
    · subst e; right; simp [startSlot]
    · simp only [upd_other _ _ e]; exact h k hk

theorem RM.quiet_first (m : RM) (h : m.quiet) (st : Int) (h0 : st ≠ 0) (h1 : st ≠ 1) : m.first st = none := by
  cases hf : m.first st with
  | none => rfl
  | some k =>
    obtain ⟨-, hk, hs⟩ := m.fst_some st 0 6 k hf
    rcases h k (by omega) with e | e <;> omega

theorem RM.starts_same (m : RM) : m.starts.set = m.set ∧ m.starts.keys = m.keys ∧ m.starts.queue = m.queue ∧ m.starts.line = m.line ∧ m.starts.time = m.time := by
  unfold RM.starts
  cases m.first 0 <;> simp

theorem RM.wf_quiet {m : RM} (h : m.quiet) (hq : ∀ i ∈ m.queue, i < m.keys.length) (hc : m.set.fits) : m.wf :=
  ⟨hq, fun k hk e => by rcases h k hk with h1 | h1 <;> omega, hc⟩

section
variable {o : Nat → Tag} {q : Nat} {w : World} {b : Nat} {m : RM} {lv : Nat → Value} {kv qv : Value}

set_option maxRecDepth 100000 in
set_option maxHeartbeats 2000000 in
theorem rSettle_quiet (h : RMem o q w b m lv kv qv) (hwf : m.wf) (hqt : m.quiet) (hmax : m.queue.length ≤ 1000000000000) :
    Calls Tryz.prog 32 #[.pointer (some ⟨b, 0, none⟩)] w fun r w' => r = .returned (.tuple #[]) ∧ RMem o q w' b m.startAll lv kv qv ∧ Fr q o w o w' := by
  unfold RM.startAll
  go_enter Tryz.func32, Tryz.ntmps32
  go_wp2_with fail
  refine (count_any h 0).mono ?_
  rintro e w1 ⟨rfl, rfl⟩
  go_wp2_with fail
  go_loopw [2] (fun n w' => ∃ (M : RM) (f : Nat), n = .int .i64 (M.cnt 0) ∧ RMem o q w' b M lv kv qv ∧ Fr q o w1 o w' ∧ m.startN 6 = M.startN f ∧ M.cnt 0 ≤ f ∧ M.set = m.set ∧ M.quiet ∧ M.keys = m.keys ∧ M.queue = m.queue) (fun n _ => (intOf n).toNat)
  case atStart => exact ⟨m, 6, rfl, h, Fr.refl h.clean, rfl, (m.cntTo_bd 0 6).2, rfl, hqt, rfl, rfl⟩
  case round =>
    obtain ⟨M, f, rfl, hM, hfr, hst, hcf, hset, hquiet, hkeys, hqueue⟩ := hrel
    have HST : Hid _ := hst
    have HK : Hid _ := hkeys
    have HQ : Hid _ := hqueue
    clear hst hkeys hqueue
    have hbd := m.cntTo_bd 0 6
    have hbd : 0 ≤ M.cnt 0 ∧ M.cnt 0 ≤ 6 := M.cntTo_bd 0 6
    have cc := hM.chc
    have cd := hM.dync
    have hch := hwf.ch.1
    rw [hset] at cc cd
    have HSET : Hid _ := hset
    clear hset
    cases hd : m.set.dyn with
    | true =>
      have HG : (!m.set.dyn && decide (6 - M.cnt 0 < m.set.ch)) = false := by rw [hd]; rfl
      rw [hd] at cd
      clear hd
      have hfin : Hid (m.startN 6 = M) := by
        have e := HST.out
        have hM2 : M.startN f = M := by
          cases f with
          | zero => rfl
          | succ f => simp only [RM.startN, HSET.out, HG]; rfl
        rw [hM2] at e; exact e
      have hwfM : M.wf := RM.wf_quiet hquiet (by rw [HK.out, HQ.out]; exact hwf.q) (by rw [HSET.out]; exact hwf.ch)
      have hmx : M.queue.length ≤ 1000000000000 := by rw [HQ.out]; exact hmax
      have hf2 : M.first 2 = none := RM.quiet_first M hquiet 2 (by omega) (by omega)
      have hcf2 : Hid (∀ w', RMem o q w' b M lv kv qv → Calls Tryz.prog 70 #[.pointer (some ⟨b, 0, none⟩), .int .i64 2] w' fun r w'' => r = .returned (.int .i64 (-1)) ∧ w'' = w') := fun w' h' => by have := first_slot h' 2; rw [hf2] at this; exact this
      clear hf2
      go_wp2
      refine wp_loop_rounds 1 ?_
      rw [rounds_succ]
      go_wp2_with fail
      refine (rback_any hM hwfM hmx).mono ?_
      rintro e w2 ⟨v, rfl, hv, hb2⟩
      obtain ⟨al, cl, rfl, hln, -⟩ := own_slice hv
      have hM2 := hM.below hb2
      go_wp2_with fail
      refine (hcf2.out _ hM2).mono ?_
      rintro e w3 ⟨rfl, rfl⟩
      by_cases h0 : M.back.length = 0
      · rw [h0] at *
        go_wp2
        exact bodyPost_ret (v := .tuple #[]) (by simp [results, Tryz.results32, go_sem]) rfl ⟨rfl, by rw [hfin.out]; exact hM2, hfr.below hb2⟩
      · go_wp2
        exact bodyPost_ret (v := .tuple #[]) (by simp [results, Tryz.results32, go_sem]) rfl ⟨rfl, by rw [hfin.out]; exact hM2, hfr.below hb2⟩
    | false =>
      rw [hd] at cd
      by_cases hgo : 6 - M.cnt 0 < m.set.ch
      · obtain ⟨k, hk, hf0, hstarts, hcnt⟩ := RM.cnt_starts M (by omega)
        have hs := RM.starts_same M
        have hqs := RM.quiet_starts M hquiet
        have HX : Hid (m.startN 6 = M.starts.startN (f - 1)) := by
          have e := HST.out
          obtain ⟨f', rfl⟩ : ∃ f', f = f' + 1 := ⟨f - 1, by omega⟩
          rw [show M.startN (f' + 1) = cond (!M.set.dyn && decide (6 - M.cnt 0 < M.set.ch)) (M.starts.startN f') M from rfl, HSET.out, hd, decide_eq_true hgo] at e
          exact e
        have HY : Hid (M.starts.set = m.set ∧ M.starts.keys = m.keys ∧ M.starts.queue = m.queue) := ⟨hs.1.trans HSET.out, hs.2.1.trans HK.out, hs.2.2.1.trans HQ.out⟩
        have HC : Hid (M.starts.cnt 0 = M.cnt 0 - 1) := hcnt
        clear hs hstarts hf0 hcnt hd
        go_wp2_with fail
        refine (starts_any hM).mono ?_
        rintro e w2 ⟨rfl, hM2, fr2⟩
        clear cc cd
        go_wp2_with fail
        refine (count_any hM2 0).mono ?_
        rintro e w3 ⟨rfl, rfl⟩
        go_wp2
        have hc := HC.out
        refine ⟨⟨M.starts, f - 1, rfl, hM2, hfr.trans fr2, HX.out, by omega, HY.out.1, hqs, HY.out.2.1, HY.out.2.2⟩, ?_⟩
        simp only [intOf]; omega
      · have HG : (!m.set.dyn && decide (6 - M.cnt 0 < m.set.ch)) = false := by rw [decide_eq_false hgo, Bool.and_false]
        clear hd
        have hfin : Hid (m.startN 6 = M) := by
          have e := HST.out
          have hM2 : M.startN f = M := by
            cases f with
            | zero => rfl
            | succ f => simp only [RM.startN, HSET.out, HG]; rfl
          rw [hM2] at e; exact e
        have hwfM : M.wf := RM.wf_quiet hquiet (by rw [HK.out, HQ.out]; exact hwf.q) (by rw [HSET.out]; exact hwf.ch)
        have hmx : M.queue.length ≤ 1000000000000 := by rw [HQ.out]; exact hmax
        have hf2 : M.first 2 = none := RM.quiet_first M hquiet 2 (by omega) (by omega)
        have hcf2 : Hid (∀ w', RMem o q w' b M lv kv qv → Calls Tryz.prog 70 #[.pointer (some ⟨b, 0, none⟩), .int .i64 2] w' fun r w'' => r = .returned (.int .i64 (-1)) ∧ w'' = w') := fun w' h' => by have := first_slot h' 2; rw [hf2] at this; exact this
        clear hf2
        go_wp2
        refine wp_loop_rounds 1 ?_
        rw [rounds_succ]
        go_wp2_with fail
        refine (rback_any hM hwfM hmx).mono ?_
        rintro e w2 ⟨v, rfl, hv, hb2⟩
        obtain ⟨al, cl, rfl, hln, -⟩ := own_slice hv
        have hM2 := hM.below hb2
        go_wp2_with fail
        refine (hcf2.out _ hM2).mono ?_
        rintro e w3 ⟨rfl, rfl⟩
        by_cases h0 : M.back.length = 0
        · rw [h0] at *
          go_wp2
          exact bodyPost_ret (v := .tuple #[]) (by simp [results, Tryz.results32, go_sem]) rfl ⟨rfl, by rw [hfin.out]; exact hM2, hfr.below hb2⟩
        · go_wp2
          exact bodyPost_ret (v := .tuple #[]) (by simp [results, Tryz.results32, go_sem]) rfl ⟨rfl, by rw [hfin.out]; exact hM2, hfr.below hb2⟩

def rawRM (c : Cfg) : RM := ⟨c, 0, fun _ => ⟨false, ⟨#[]⟩, 0, []⟩, fun _ => ⟨0, 0, 0, false, 0⟩, [], []⟩
def startRM (c : Cfg) : RM := (rawRM c).startAll

theorem RMem.raw (hc : Clean o w) (c : Cfg) :
    RMem (upd o w.heap.size (q, 1)) q (w.alloc (.cells (wcells (rawRM c) nilV (.slice none 0 0) (.slice none 0 0)).toArray 76)) w.heap.size (rawRM c) nilV (.slice none 0 0) (.slice none 0 0) := by
  refine ⟨?_, upd_same _ _ _, Blk.made w _ _, fun k hk => Row.nil _ _ _ _ _, Row.nil _ _ _ _ _, Row.nil _ _ _ _ _⟩
  intro g hg
  have h1 : w.heap.size + 1 ≤ g := by simpa using hg
  rw [upd_other _ _ (by omega)]
  exact hc g (by omega)

theorem rawRM_quiet (c : Cfg) : (rawRM c).quiet := fun _ _ => .inl rfl

theorem cfg_ch {c : Cfg} (h : c.ok = true) : c.ch ≤ 6 := by
  simp only [Cfg.ok, Bool.and_eq_true, decide_eq_true_eq] at h
  exact h.1.1.1.2

theorem cfg_fits {c : Cfg} (h : c.ok = true) : c.fits := by
  refine ⟨cfg_ch h, fun hd => ?_⟩
  simp only [Cfg.ok, hd, Bool.not_true, Bool.false_or, Bool.and_eq_true, decide_eq_true_eq] at h
  omega

set_option maxRecDepth 100000 in
set_option maxHeartbeats 1000000 in
theorem start_any (c : Cfg) (w : World) (ho : Clean o w) (h : c.ok = true) :
    Calls Tryz.prog 16 #[c.val] w fun r w' => ∃ b o', r = .returned (.pointer (some ⟨b, 0, none⟩)) ∧ RMem o' q w' b (startRM c) nilV (.slice none 0 0) (.slice none 0 0) ∧ Fr q o w o' w' := by
  have hch := cfg_fits h
  unfold Cfg.val
  go_enter Tryz.func16, Tryz.ntmps16
  go_wp2_with fail
  have e1 : w.heap.size + 1 = (w.alloc (.cells #[.int .i64 c.ch, .bool c.dyn, .int .i64 c.mn, .int .i64 c.mx, .int .i64 c.mr, .int .i64 c.tmo, .int .i64 c.bl] 23)).heap.size := by simp
  have hb1 : Below w.heap.size w (w.alloc (.cells #[.int .i64 c.ch, .bool c.dyn, .int .i64 c.mn, .int .i64 c.mx, .int .i64 c.mr, .int .i64 c.tmo, .int .i64 c.bl] 23)) := (Below.refl _ _).alloc (Nat.le_refl _) _
  generalize w.alloc (.cells #[.int .i64 c.ch, .bool c.dyn, .int .i64 c.mn, .int .i64 c.mx, .int .i64 c.mr, .int .i64 c.tmo, .int .i64 c.bl] 23) = w1 at *
  rw [e1]
  have ho1 : Clean o w1 := ho.le hb1.size
  have hm0 := RMem.raw (q := q) ho1 c
  have fr0 := (Fr.of_below (q := q) ho hb1).trans (Fr.made (q := q) (w' := w1.alloc (.cells (wcells (rawRM c) nilV (.slice none 0 0) (.slice none 0 0)).toArray 76)) (q, 1) ((Below.refl w1.heap.size w1).alloc (Nat.le_refl _) _) hm0.clean)
  refine (rSettle_quiet hm0 (RM.wf_quiet (rawRM_quiet c) (by intro i hi; cases hi) hch) (rawRM_quiet c) (by simp [rawRM])).mono ?_
  rintro e w2 ⟨rfl, hm2, fr2⟩
  go_wp2
  go_ret
  exact ⟨_, _, rfl, hm2, fr0.trans fr2⟩

end
end Go.Proofs.YtlafkpaljibonaaGreat
