import Derived.Test.YtlafkpaljibonaaGreatL4
namespace Go.Proofs.YtlafkpaljibonaaGreat
open Go.RowKit

/-- What the program's foreman shows is what the document's shows. -/
structure Same (m : PM) (M : RM) : Prop where
  op : ∀ n, m.open_ n = M.open_ n
  sent : ∀ n, m.sent_ n = M.sent_ n
  slot : ∀ n, M.slotV n = m.slotV n
  job : ∀ n, M.jobV n = m.jobV n
  jobE : ∀ n, M.stE n 3 = m.jobE n
  waits : M.waits = m.waits
  time : m.time = M.time

theorem slotV_agg (m : PM) (n : Int) : ∃ st old served since conn id, m.slotV n = .agg #[.int .i64 st, .bool old, .int .i64 served, .int .i64 since, .int .i64 conn, .int .i64 id] := by
  unfold PM.slotV
  cases isS n
  · exact ⟨0, false, 0, 0, 0, 0, rfl⟩
  · exact ⟨_, _, _, _, _, _, rfl⟩

section
variable {p : Nat} {o : Nat → Tag} {w : World} {gb fb wb : Nat} {ls ts : List Value} {lv tv : Value} {m : PM} {sv : Nat → Value} {rv : Value} {M : RM} {nv : Nat → Value} {kv qv : Value}

set_option maxRecDepth 100000 in
set_option maxHeartbeats 2000000 in
theorem looks_any (h : Trio p o w gb fb wb ls ts lv tv m sv rv M nv kv qv) (hwf : M.wf) (hlv : ∀ k, k < 6 → M.live k = false) (hS : Same m M)
    (hs : ∀ k, k < 4 → (M.line k).sent.length ≤ 1000000000000) (h1 : m.req.length ≤ 100000000000) (h2 : M.queue.length ≤ 100000000000) (h3 : ls.length ≤ 10000000000) :
    Calls Tryz.prog 11 #[.pointer (some ⟨gb, 0, none⟩)] w fun r w' => r = .returned (.bool true) ∧ ∃ o' ls' ts' lv' tv', Trio p o' w' gb fb wb ls' ts' lv' tv' m sv rv M nv kv qv ∧ Fr (p + 3) o w o' w' ∧ ls'.length = ls.length + 1 := by
  go_enter Tryz.func11, Tryz.ntmps11
  go_wp2
  go_loopw [3, 4] (fun s i w' => ∃ j : Nat, j ≤ 6 ∧ s = .bool true ∧ i = .int .i64 ((j : Int) - 1) ∧ Below w.heap.size w w') (fun _ i _ => 6 - (intOf i + 1).toNat)
  case atStart => exact ⟨0, by omega, rfl, by simp, Below.refl _ _⟩
  case round =>
    obtain ⟨j, hj, rfl, rfl, hb⟩ := hrel
    by_cases hlt : j < 6
    · go_wp2_with fail
      refine (line_any (h.below hb) _ (hS.op _) (hS.sent _) hs).mono ?_
      rintro e w1 ⟨rfl, hb1⟩
      go_wp2
      exact ⟨⟨j + 1, by omega, rfl, by go_num, hb.trans (hb1.mono hb.size)⟩, by simp [intOf]; omega⟩
    · have : j = 6 := by omega
      subst this
      clear hlt hj
      rw [show (((6 : Nat) : Int) - 1) = 5 from rfl]
      go_wp2
      go_loopw [3, 5] (fun s i w' => ∃ j : Nat, j ≤ 8 ∧ s = .bool true ∧ i = .int .i64 ((j : Int) - 1) ∧ Below w.heap.size w w') (fun _ i _ => 8 - (intOf i + 1).toNat)
      case atStart => exact ⟨0, by omega, rfl, by simp, hb⟩
      case round =>
        clear hb
        obtain ⟨j, hj, rfl, rfl, hb⟩ := hrel
        by_cases hlt : j < 8
        · go_wp2_with fail
          refine (gslot_any (h.below hb) hwf hlv _ (hS.slot _) (hS.job _) (hS.jobE _) (slotV_agg m _)).mono ?_
          rintro e w1 ⟨rfl, hb1⟩
          go_wp2
          exact ⟨⟨j + 1, by omega, rfl, by go_num, hb.trans (hb1.mono hb.size)⟩, by simp [intOf]; omega⟩
        · have : j = 8 := by omega
          subst this
          clear hlt hj
          rw [show (((8 : Nat) : Int) - 1) = 7 from rfl]
          have ht := h.below hb
          have hc := h.f.clean
          go_wp2_with fail
          refine (gbacklog_any ht hwf hS.waits h1 h2 (by omega)).mono ?_
          rintro e w2 ⟨rfl, o', ls', ts', lv', tv', t2, fr2, hl2⟩
          have c0 := t2.g.fc
          have c1 := t2.g.wc
          have c2 := t2.g.lc
          have c3 := t2.g.tc
          clear ht
          go_wp2_with fail
          refine (time_any t2.f).mono ?_
          rintro e w3 ⟨rfl, rfl⟩
          go_wp2_with fail
          refine (rTime_any t2.r).mono ?_
          rintro e w4 ⟨rfl, rfl⟩
          go_wp2_with fail
          refine (marked_any 1 (.inl rfl) t2.g.lists (by omega) (fun k hk => by obtain ⟨n, hn⟩ := t2.g.ml k hk; exact ⟨n, by simpa using hn.1⟩)).mono ?_
          rintro e w5 ⟨rfl, hb5⟩
          have t5 := t2.below hb5
          clear c0 c1 c2 c3
          have c3 := t5.g.tc
          have hlt3 := t5.g.len
          have hlt4 : ts'.length ≤ 1000000000000 := by omega
          clear hlt3
          go_wp2_with fail
          refine (marked_any 3 (.inr rfl) t5.g.tails hlt4 (fun k hk => by obtain ⟨n, hn⟩ := t5.g.mt k hk; exact ⟨n, hn.1⟩)).mono ?_
          rintro e w6 ⟨rfl, hb6⟩
          have t6 := t5.below hb6
          have htm := hS.time
          clear c3
          go_wp2
          go_ret
          refine ⟨by simp, o', ls', ts', lv', tv', t6, ?_, hl2⟩
          exact (((Fr.of_below hc hb).trans fr2).below hb5).below hb6
end
end Go.Proofs.YtlafkpaljibonaaGreat
