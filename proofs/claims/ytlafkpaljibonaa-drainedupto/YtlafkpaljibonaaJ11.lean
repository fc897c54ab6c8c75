import Derived.Test.YtlafkpaljibonaaJ10
namespace Go.Proofs.Ytlafkpaljibonaa
open Go.RowKit

section
variable {m m' : PM} {a : Bool} {R : Int} {P : Int → Prop}

theorem map_set_key (l : List Req) (i : Nat) (x : Req) (hi : i < l.length) (e : keyR x = keyR l[i]) : (l.set i x).map keyR = l.map keyR := by
  rw [List.map_set, e]
  have : keyR l[i] = (l.map keyR)[i]'(by simpa using hi) := by simp
  rw [this, List.set_getElem_self]

theorem PM.Law.lease (h : m.Law a R P) {i k : Nat} (hk : k < 6) (hi : i < m.req.length) (h1 : m.req[i].stage = 1) (h2 : (m.slot k).st = 2) : (m.lease i k m.req[i]).Law a R P := by
  have hmem := List.getElem_mem hi
  obtain ⟨hoc, hP⟩ := h.okc _ hmem
  have hn1 : m.req[i].conn ≠ -1 := by obtain ⟨n, -, e⟩ := hoc; omega
  have hns : (m.slot k).conn = -1 := ((h.loc k hk).idle (by omega)).2
  have hfree : ∀ j, j < 6 → (m.slot j).conn ≠ -1 → keyS (m.slot j) ≠ keyR m.req[i] := by
    intro j hj hc e
    rcases h.key j hj with e2 | ⟨r, hr, e2, e3⟩
    · exact hc e2
    · have := nodup_key h.dis hr hmem (e2.trans e)
      rw [this] at e3; omega
  refine ⟨h.cfg, h.ch, fun j hj => ?_, fun j hj => ?_, fun j l hj hl hjl hc => ?_, ?_, fun r hr => ?_, ?_, fun r hr h2' => ?_, fun r hr => ?_⟩
  · by_cases e : j = k
    · subst e
      simp only [PM.lease, upd_same]
      refine ⟨(by simp), (fun e => absurd rfl e), (fun e => absurd e hn1), (fun e => by cases e), fun ha hm => ?_⟩
      obtain ⟨s1, s2, s3, -⟩ := (h.loc j hj).srv ha hm
      have := s3 h2
      have hb := (Cfg.ok_bd h.cfg).2.2.2
      have ew : wrap64 ((m.slot j).served + 1) = (m.slot j).served + 1 := by unfold wrap64; omega
      show 0 ≤ wrap64 ((m.slot j).served + 1) ∧ wrap64 ((m.slot j).served + 1) ≤ m.set.mr ∧ ((3 : Int) = 2 → _) ∧ ((3 : Int) = 1 → _)
      rw [ew]
      exact ⟨by omega, by omega, (fun e => by cases e), (fun e => by cases e)⟩
    · simp only [PM.lease, upd_other _ _ e]; exact h.loc j hj
  · by_cases e : j = k
    · subst e
      right
      refine ⟨{ m.req[i] with stage := 2, body := ⟨#[]⟩ }, ?_, ?_, rfl⟩
      · simp only [PM.lease]; exact List.mem_set hi _
      · simp only [PM.lease, upd_same]; rfl
    · simp only [PM.lease, upd_other _ _ e]
      rcases h.key j hj with e2 | ⟨r, hr, e2, e3⟩
      · exact .inl e2
      · right
        refine ⟨r, ?_, e2, e3⟩
        obtain ⟨n, hn, rfl⟩ := List.getElem_of_mem hr
        have : n ≠ i := by rintro rfl; omega
        have e4 : (m.req.set i { m.req[i] with stage := 2, body := ⟨#[]⟩ })[n]'(by simpa using hn) = m.req[n] := by rw [List.getElem_set_ne (Ne.symm this)]
        rw [← e4]; exact List.getElem_mem _
  · by_cases ej : j = k
    · subst ej
      simp only [PM.lease, upd_same, upd_other _ _ (Ne.symm hjl)]
      intro e
      have hlc : (m.slot l).conn ≠ -1 := by
        have := congrArg Prod.fst e
        simp only [keyS] at this
        rw [← this]; exact hn1
      exact hfree l hl hlc e.symm
    · simp only [PM.lease, upd_other _ _ ej] at hc ⊢
      by_cases el : l = k
      · subst el
        simp only [upd_same]
        exact hfree j hj hc
      · simp only [upd_other _ _ el]; exact h.two j l hj hl hjl hc
  · have e := map_set_key m.req i { m.req[i] with stage := 2, body := ⟨#[]⟩ } hi rfl
    show ((m.req.set i { m.req[i] with stage := 2, body := ⟨#[]⟩ }).map keyR).Nodup
    rw [e]; exact h.dis
  · rcases List.mem_or_eq_of_mem_set hr with e | rfl
    · exact h.okc r e
    · exact ⟨hoc, hP⟩
  · refine Int.le_trans (usedTo_mono 6 fun j hj => ?_) h.used
    by_cases e : j = k
    · subst e; right; omega
    · simp only [PM.lease, upd_other _ _ e]
      by_cases h0 : (m.slot j).st = 0
      · exact .inl h0
      · exact .inr h0
  · rcases List.mem_or_eq_of_mem_set hr with e | rfl
    · obtain ⟨j, hj, hjk, e2⟩ := h.held_other hns e h2'
      exact ⟨j, hj, by simp only [PM.lease, upd_other _ _ hjk]; exact e2⟩
    · exact ⟨k, hk, by simp only [PM.lease, upd_same]; rfl⟩
  · rcases List.mem_or_eq_of_mem_set hr with e | rfl
    · exact h.stg r e
    · exact .inr (.inr rfl)

theorem PM.leaseAt_cases (m : PM) (k : Nat) : m.leaseAt k = m ∨ ∃ i, ∃ hi : i < m.req.length, m.fw = some i ∧ m.req[i].stage = 1 ∧ (m.slot k).st = 2 ∧ m.leaseAt k = m.lease i k m.req[i] := by
  unfold PM.leaseAt
  cases hf : m.fw with
  | none => exact .inl rfl
  | some i =>
    obtain ⟨hi, h1, -⟩ := bd_fw_some hf
    have hg : m.req.getD i noReq = m.req[i] := by simp [List.getD, List.getElem?_eq_getElem hi]
    simp only [hg]
    cases hs : ((m.slot k).st == 2)
    · exact .inl rfl
    · exact .inr ⟨i, hi, rfl, h1, by simpa using hs, rfl⟩

theorem PM.Law.leaseTo (h : m.Law a R P) : ∀ k, k ≤ 6 → (m.leaseTo k).Law a R P
  | 0, _ => h
  | k + 1, hk => by
    have ih := PM.Law.leaseTo h k (by omega)
    show ((m.leaseTo k).leaseAt k).Law a R P
    rcases (m.leaseTo k).leaseAt_cases k with e | ⟨i, hi, -, h1, h2, e⟩
    · rw [e]; exact ih
    · rw [e]; exact ih.lease (by omega) hi h1 h2

theorem leaseTo_set (m : PM) : ∀ k, (m.leaseTo k).set = m.set
  | 0 => rfl
  | k + 1 => by
    show ((m.leaseTo k).leaseAt k).set = m.set
    rcases (m.leaseTo k).leaseAt_cases k with e | ⟨i, hi, -, h1, h2, e⟩
    · rw [e]; exact leaseTo_set m k
    · rw [e]; exact leaseTo_set m k

theorem lease_used {m : PM} {i k : Nat} {r : Req} (h2 : (m.slot k).st = 2) : ∀ n, (m.lease i k r).usedTo n = m.usedTo n
  | 0 => rfl
  | n + 1 => by
    have ih := lease_used (m := m) (i := i) (k := k) (r := r) h2 n
    simp only [PM.usedTo, ih]
    congr 1
    by_cases e : n = k
    · subst e; simp [PM.lease, h2]
    · simp only [PM.lease, upd_other _ _ e]

theorem leaseTo_used (m : PM) : ∀ k, (m.leaseTo k).usedTo 6 = m.usedTo 6
  | 0 => rfl
  | k + 1 => by
    show ((m.leaseTo k).leaseAt k).usedTo 6 = _
    rcases (m.leaseTo k).leaseAt_cases k with e | ⟨i, hi, -, h1, h2, e⟩
    · rw [e]; exact leaseTo_used m k
    · rw [e, lease_used h2]; exact leaseTo_used m k

/-- The slots behind k are as they were; if somebody still waits, no slot before k is Idle. -/
theorem leaseTo_rest (m : PM) : ∀ k, (∀ j, k ≤ j → (m.leaseTo k).slot j = m.slot j) ∧ ((m.leaseTo k).fw ≠ none → ∀ j, j < k → ((m.leaseTo k).slot j).st ≠ 2)
  | 0 => ⟨fun _ _ => rfl, fun _ j hj => by omega⟩
  | k + 1 => by
    obtain ⟨h1, h2⟩ := leaseTo_rest m k
    show (∀ j, k + 1 ≤ j → ((m.leaseTo k).leaseAt k).slot j = m.slot j) ∧ (((m.leaseTo k).leaseAt k).fw ≠ none → ∀ j, j < k + 1 → (((m.leaseTo k).leaseAt k).slot j).st ≠ 2)
    rcases (m.leaseTo k).leaseAt_cases k with e | ⟨i, hi, hf, hs, hst, e⟩
    · have e' := e
      rw [e]
      refine ⟨fun j hj => h1 j (by omega), fun hf j hj => ?_⟩
      by_cases ej : j = k
      · subst ej
        intro h3
        unfold PM.leaseAt at e'
        cases hfw : (m.leaseTo j).fw with
        | none => exact hf hfw
        | some i =>
          rw [hfw] at e'
          simp only [h3, beq_self_eq_true, cond_true] at e'
          have := congrArg (fun m => (m.slot j).st) e'
          simp [PM.lease, h3] at this
      · exact h2 hf j (by omega)
    · rw [e]
      refine ⟨fun j hj => ?_, fun _ j hj => ?_⟩
      · simp only [PM.lease, upd_other _ _ (show j ≠ k by omega)]; exact h1 j (by omega)
      · by_cases ej : j = k
        · subst ej; simp [PM.lease]
        · simp only [PM.lease, upd_other _ _ ej]
          exact h2 (by rw [hf]; simp) j (by omega)

/-- Nobody waits beside an Idle slot; not Dynamic: none is missing. -/
structure PM.Calm (m : PM) : Prop where
  rest : (∃ j, j < 6 ∧ (m.slot j).st = 2) → m.waits = []
  full : m.set.dyn = false → m.set.ch ≤ m.usedTo 6

theorem PM.Law.settle (h : m.Law a R P) : m.settle.Law a R P ∧ m.settle.Calm := by
  unfold PM.settle PM.leaseWaiting
  cases hd : m.set.dyn
  · obtain ⟨h1, h2⟩ := h.missing
    refine ⟨h1.leaseTo 6 (Nat.le_refl _), ⟨?_, fun _ => ?_⟩⟩
    · rintro ⟨j, hj, e⟩
      cases hf : (m.startMissing.leaseTo 6).fw with
      | none => exact bd_fw_none hf
      | some i => exact absurd e ((leaseTo_rest m.startMissing 6).2 (by rw [hf]; simp) j hj)
    · simp only [cond_false]
      rw [leaseTo_set, leaseTo_used]
      have : m.startMissing.set = m.set := startTo_set m _ 6
      rw [this]; exact h2
  · refine ⟨h.leaseTo 6 (Nat.le_refl _), ⟨?_, fun e => ?_⟩⟩
    · rintro ⟨j, hj, e⟩
      cases hf : (m.leaseTo 6).fw with
      | none => exact bd_fw_none hf
      | some i => exact absurd e ((leaseTo_rest m 6).2 (by rw [hf]; simp) j hj)
    · simp only [cond_true] at e
      rw [leaseTo_set, hd] at e; cases e

theorem settle_set (m : PM) : m.settle.set = m.set := by
  unfold PM.settle PM.leaseWaiting
  rw [leaseTo_set]
  cases m.set.dyn
  · exact startTo_set m _ 6
  · rfl

/-- Who waits: leases only strike. -/
theorem lease_waits {m : PM} {i k : Nat} (hi : i < m.req.length) (h1 : m.req[i].stage = 1) : (m.lease i k m.req[i]).waits.length + 1 = m.waits.length := by
  have key : ∀ (l : List Req) (i : Nat) (hi : i < l.length) (x : Req), l[i].stage = 1 → x.stage = 2 → ((l.set i x).filter fun r => r.stage == 1).length + 1 = (l.filter fun r => r.stage == 1).length := by
    intro l
    induction l with
    | nil => intro i hi; simp at hi
    | cons y l ih =>
      intro i hi x h1 h2
      cases i with
      | zero =>
        simp only [List.getElem_cons_zero] at h1
        simp only [List.set_cons_zero]
        rw [List.filter_cons_of_neg (by simp [h2]), List.filter_cons_of_pos (by simp [h1])]
        simp
      | succ i =>
        simp only [List.getElem_cons_succ] at h1
        simp only [List.set_cons_succ]
        have := ih i (by simpa using hi) x h1 h2
        by_cases hy : y.stage = 1
        · rw [List.filter_cons_of_pos (by simp [hy]), List.filter_cons_of_pos (by simp [hy])]
          simp only [List.length_cons]; omega
        · rw [List.filter_cons_of_neg (by simp [hy]), List.filter_cons_of_neg (by simp [hy])]; exact this
  unfold PM.waits
  simp only [List.length_map]
  exact key m.req i hi _ h1 rfl

theorem leaseTo_waits (m : PM) : ∀ k, (m.leaseTo k).waits.length ≤ m.waits.length
  | 0 => Nat.le_refl _
  | k + 1 => by
    have ih := leaseTo_waits m k
    show ((m.leaseTo k).leaseAt k).waits.length ≤ _
    rcases (m.leaseTo k).leaseAt_cases k with e | ⟨i, hi, -, h1, h2, e⟩
    · rw [e]; exact ih
    · rw [e]; have := lease_waits (k := k) hi h1; omega

/-- An Idle slot takes one of those that wait. -/
theorem leaseTo_one (m : PM) : ∀ k, (∃ j, j < k ∧ (m.slot j).st = 2) → (m.leaseTo k).waits.length + 1 ≤ m.waits.length ∨ (m.leaseTo k).waits.length = 0
  | 0, h => by obtain ⟨j, hj, -⟩ := h; omega
  | k + 1, h => by
    have ih := leaseTo_one m k
    have hw := leaseTo_waits m k
    show ((m.leaseTo k).leaseAt k).waits.length + 1 ≤ _ ∨ ((m.leaseTo k).leaseAt k).waits.length = 0
    rcases (m.leaseTo k).leaseAt_cases k with e | ⟨i, hi, -, h1, h2, e⟩
    · have e' := e
      rw [e]
      obtain ⟨j, hj, hs⟩ := h
      by_cases ej : j = k
      · subst ej
        right
        cases hf : (m.leaseTo j).fw with
        | none => rw [bd_fw_none hf]; rfl
        | some i =>
          exfalso
          have hsl := (leaseTo_rest m j).1 j (Nat.le_refl _)
          unfold PM.leaseAt at e'
          rw [hf] at e'
          simp only [hsl, hs, beq_self_eq_true, cond_true] at e'
          have := congrArg (fun m => (m.slot j).st) e'
          simp [PM.lease, hsl, hs] at this
      · exact ih ⟨j, by omega, hs⟩
    · rw [e]; have := lease_waits (k := k) hi h1; left; omega

theorem settle_waits (m : PM) : m.settle.waits.length ≤ m.waits.length ∧ ((∃ j, j < 6 ∧ (m.slot j).st = 2) → m.waits.length ≤ 1 → m.settle.waits.length = 0) := by
  unfold PM.settle PM.leaseWaiting
  cases m.set.dyn
  · have hr : m.startMissing.waits = m.waits := by unfold PM.waits PM.startMissing; rw [missing_req]
    refine ⟨by simp only [cond_false]; rw [← hr]; exact leaseTo_waits _ 6, fun h h1 => ?_⟩
    obtain ⟨j, hj, e⟩ := h
    have := leaseTo_one m.startMissing 6 ⟨j, hj, by unfold PM.startMissing; rw [missing_slot m _ 6 j (by omega)]; exact e⟩
    rw [hr] at this
    simp only [cond_false]; omega
  · refine ⟨leaseTo_waits m 6, fun h h1 => ?_⟩
    have := leaseTo_one m 6 h
    simp only [cond_true]; omega

end
end Go.Proofs.Ytlafkpaljibonaa

namespace Go.Proofs.Ytlafkpaljibonaa
open Go.RowKit

section
variable {m m' : PM} {a : Bool} {R Q : Int} {P : Int → Prop}

theorem isKey_iff {c i : Int} {r : Req} : isKey c i r = true ↔ keyR r = (c, i) := by simp [isKey, keyR]

theorem drop_slots (m : PM) (c i : Int) (hu : ∀ s t, s < 6 → t < 6 → s ≠ t → (m.slot s).conn ≠ -1 → keyS (m.slot s) ≠ keyS (m.slot t)) (hc : c ≠ -1) (k : Nat) (hk : k < 6) :
    ((m.drop c i).slot k = m.slot k ∧ keyS (m.slot k) ≠ (c, i)) ∨ ((m.drop c i).slot k = (m.slot k).forget ∧ keyS (m.slot k) = (c, i)) := by
  have hhas : ∀ j, m.slotHas c i j = true ↔ keyS (m.slot j) = (c, i) := by
    intro j; simp [PM.slotHas, keyS]
  unfold PM.drop
  cases hf : m.slotOf c i with
  | none =>
    left
    refine ⟨rfl, fun e => ?_⟩
    have := bd_slotFrom_none hf k (by omega) (by omega)
    rw [(hhas k).2 e] at this; cases this
  | some b =>
    obtain ⟨-, hb, hh⟩ := bd_slotFrom_yes hf
    by_cases e : k = b
    · subst e; right; exact ⟨by simp [PM.forgetAt], (hhas k).1 hh⟩
    · left
      refine ⟨by simp [PM.forgetAt, upd_other _ _ e], fun e2 => ?_⟩
      have h1 := (hhas b).1 hh
      refine hu k b hk (by omega) e ?_ (e2.trans h1.symm)
      have := congrArg Prod.fst e2
      simp only [keyS] at this
      rw [this]; exact hc

theorem drop_st (m : PM) (c i : Int) (k : Nat) : ((m.drop c i).slot k).st = (m.slot k).st ∧ ((m.drop c i).slot k).old = (m.slot k).old ∧ ((m.drop c i).slot k).served = (m.slot k).served := by
  unfold PM.drop
  cases m.slotOf c i with
  | none => exact ⟨rfl, rfl, rfl⟩
  | some b =>
    by_cases e : k = b
    · subst e; simp [PM.forgetAt, PSlot.forget]
    · simp [PM.forgetAt, upd_other _ _ e]

theorem drop_set (m : PM) (c i : Int) : (m.drop c i).set = m.set := by
  unfold PM.drop
  cases m.slotOf c i <;> rfl

theorem PM.Law.drop (h : m.Law a R P) {c : Int} (hc : c ≠ -1) (i : Int) : (m.drop c i).Law a R P := by
  have hs := drop_slots m c i h.two hc
  refine h.of (drop_set m c i) (fun k hk => ?_) (fun k hk e hn r hr h1 h2 => ?_) ?_ (fun r hr => ?_) (fun r hr h2 => ?_) (fun r hr => ?_)
  · rcases hs k hk with ⟨e, -⟩ | ⟨e, -⟩
    · exact .inl e
    · right
      rw [e]
      have hl := h.loc k hk
      refine ⟨⟨hl.dom, fun h3 => ⟨(hl.idle h3).1, rfl⟩, fun _ => rfl, hl.new, hl.srv⟩, rfl, ?_⟩
      by_cases h0 : (m.slot k).st = 0
      · exact .inl h0
      · exact .inr h0
  · rcases hs k hk with ⟨-, e2⟩ | ⟨e2, -⟩
    · refine ⟨r, ?_, h1, h2⟩
      rw [drop_req]
      refine List.mem_filter.2 ⟨hr, ?_⟩
      rw [← h1] at e2
      cases hk : isKey c i r
      · rfl
      · simp only [isKey, Bool.and_eq_true, beq_iff_eq] at hk
        exact absurd (by simp [keyR, hk.1, hk.2]) e2
    · exact absurd (by rw [← e, e2]; rfl) hn
  · rw [drop_req]; exact ((List.filter_sublist).map keyR).nodup h.dis
  · rw [drop_req] at hr; exact h.okc r (List.mem_filter.1 hr).1
  · rw [drop_req] at hr
    obtain ⟨hr1, hr2⟩ := List.mem_filter.1 hr
    obtain ⟨k, hk, e⟩ := h.held r hr1 h2
    rcases hs k hk with ⟨e2, -⟩ | ⟨-, e2⟩
    · exact ⟨k, hk, by rw [e2]; exact e⟩
    · rw [isKey_iff.2 (e.symm.trans e2)] at hr2; cases hr2
  · rw [drop_req] at hr; exact h.stg r (List.mem_filter.1 hr).1

theorem PM.Law.endKey (h : m.Law a R P) (k : Nat) (i st : Int) : (m.endKey k i st).Law a R P :=
  PM.Law.drop (m := m.sendB k _) (h.same rfl rfl rfl) (by omega) i

theorem endKey_st (m : PM) (c : Nat) (i st : Int) (k : Nat) : ((m.endKey c i st).slot k).st = (m.slot k).st ∧ ((m.endKey c i st).slot k).old = (m.slot k).old ∧ ((m.endKey c i st).slot k).served = (m.slot k).served := drop_st (m.sendB c _) _ _ k
theorem endKey_set (m : PM) (c : Nat) (i st : Int) : (m.endKey c i st).set = m.set := drop_set (m.sendB c _) _ _
theorem endKey_req (m : PM) (c : Nat) (i st : Int) : (m.endKey c i st).req = withoutL m.req c i := drop_req (m.sendB c _) _ _

theorem waits_sub (h : m'.req.Sublist m.req) : m'.waits.length ≤ m.waits.length := by
  unfold PM.waits
  simp only [List.length_map]
  exact (h.filter _).length_le

theorem endKey_sub (m : PM) (c : Nat) (i st : Int) : (m.endKey c i st).req.Sublist m.req := by rw [endKey_req]; exact List.filter_sublist

theorem PM.Law.endKeyOf (h : m.Law a R P) (k : Nat) (st : Int) : (m.endKeyOf k st).Law a R P := by
  unfold PM.endKeyOf
  cases ((m.slot k).conn != -1)
  · exact h
  · exact h.endKey _ _ _
/-- Behind an end of its key a slot has none. -/
theorem PM.Law.endKeyOf_conn (h : m.Law a R P) {k : Nat} (hk : k < 6) (st : Int) : ((m.endKeyOf k st).slot k).conn = -1 := by
  unfold PM.endKeyOf
  cases hc : ((m.slot k).conn != -1)
  · simpa using hc
  · have hc' : (m.slot k).conn ≠ -1 := by simpa using hc
    have hn : ((m.slot k).conn.toNat : Int) = (m.slot k).conn := by
      rcases h.key k hk with e | ⟨r, hr, e, -⟩
      · exact absurd e hc'
      · obtain ⟨n, -, e2⟩ := (h.okc r hr).1
        have : r.conn = (m.slot k).conn := congrArg Prod.fst e
        omega
    simp only [cond_true]
    unfold PM.endKey
    rw [hn]
    rcases drop_slots (m.sendB (m.slot k).conn.toNat (encB 3 (m.slot k).id (strOfNums [st]))) (m.slot k).conn (m.slot k).id h.two hc' k hk with ⟨-, e⟩ | ⟨e, -⟩
    · exact absurd rfl e
    · rw [e]; rfl
theorem endKeyOf_st (m : PM) (c : Nat) (st : Int) (k : Nat) : ((m.endKeyOf c st).slot k).st = (m.slot k).st ∧ ((m.endKeyOf c st).slot k).old = (m.slot k).old ∧ ((m.endKeyOf c st).slot k).served = (m.slot k).served := by
  unfold PM.endKeyOf
  cases ((m.slot c).conn != -1)
  · exact ⟨rfl, rfl, rfl⟩
  · exact endKey_st _ _ _ _ _
theorem bdEndOf_set (m : PM) (c : Nat) (st : Int) : (m.endKeyOf c st).set = m.set := by
  unfold PM.endKeyOf
  cases ((m.slot c).conn != -1)
  · rfl
  · exact endKey_set _ _ _ _
theorem endKeyOf_sub (m : PM) (c : Nat) (st : Int) : (m.endKeyOf c st).req.Sublist m.req := by
  unfold PM.endKeyOf
  cases ((m.slot c).conn != -1)
  · exact List.Sublist.refl _
  · exact endKey_sub _ _ _ _

theorem PM.Law.add (h : m.Law a R P) {k : Nat} (hk : k < 4) (hP : P k) {i : Int} (hno : m.find k i = none) : ({ m with req := m.req ++ [newReq k i] } : PM).Law a R P := by
  refine h.of rfl (fun _ _ => .inl rfl) (fun j _ _ _ r hr h1 h2 => ⟨r, List.mem_append_left _ hr, h1, h2⟩) ?_ (fun r hr => ?_) (fun r hr h2 => ?_) (fun r hr => ?_)
  · simp only [List.map_append, List.map_cons, List.map_nil]
    rw [List.nodup_append]
    refine ⟨h.dis, by simp, ?_⟩
    intro x hx y hy e
    obtain ⟨r, hr, rfl⟩ := List.mem_map.1 hx
    have := bd_findFrom_none _ _ _ _ hno r hr
    rw [List.mem_singleton] at hy
    rw [isKey_iff.2 (show keyR r = ((k : Int), i) from e.trans hy)] at this; cases this
  · rcases List.mem_append.1 hr with e | e
    · exact h.okc r e
    · rw [List.mem_singleton.1 e]; exact ⟨⟨k, hk, rfl⟩, hP⟩
  · rcases List.mem_append.1 hr with e | e
    · exact h.held r e h2
    · rw [List.mem_singleton.1 e] at h2; cases h2
  · rcases List.mem_append.1 hr with e | e
    · exact h.stg r e
    · rw [List.mem_singleton.1 e]; exact .inl rfl

theorem PM.Law.wait (h : m.Law a R P) {k : Nat} (hk : k < 4) (hP : P k) {i : Int} (hst : ∀ r ∈ m.req, keyR r = ((k : Int), i) → r.stage = 0) (body : ByteArray) : ({ m with req := withoutL m.req k i ++ [⟨k, i, 1, body⟩] } : PM).Law a R P := by
  refine h.of rfl (fun _ _ => .inl rfl) (fun j _ _ _ r hr h1 h2 => ⟨r, List.mem_append_left _ (List.mem_filter.2 ⟨hr, ?_⟩), h1, h2⟩) ?_ (fun r hr => ?_) (fun r hr h2 => ?_) (fun r hr => ?_)
  · cases hk : isKey k i r
    · rfl
    · have := hst r hr (isKey_iff.1 hk); omega
  · simp only [List.map_append, List.map_cons, List.map_nil]
    rw [List.nodup_append]
    refine ⟨((List.filter_sublist).map keyR).nodup h.dis, by simp, ?_⟩
    intro x hx y hy e
    obtain ⟨r, hr, rfl⟩ := List.mem_map.1 hx
    have := (List.mem_filter.1 hr).2
    rw [List.mem_singleton] at hy
    rw [isKey_iff.2 (e.trans hy)] at this; cases this
  · rcases List.mem_append.1 hr with e | e
    · exact h.okc r (List.mem_filter.1 e).1
    · rw [List.mem_singleton.1 e]; exact ⟨⟨k, hk, rfl⟩, hP⟩
  · rcases List.mem_append.1 hr with e | e
    · exact h.held r (List.mem_filter.1 e).1 h2
    · rw [List.mem_singleton.1 e] at h2; cases h2
  · rcases List.mem_append.1 hr with e | e
    · exact h.stg r (List.mem_filter.1 e).1
    · rw [List.mem_singleton.1 e]; exact .inr (.inl rfl)

theorem mem_set_ne {l : List Req} {i : Nat} (hi : i < l.length) {r x : Req} (hr : r ∈ l) (hn : r ≠ l[i]) : r ∈ l.set i x := by
  obtain ⟨n, hn', rfl⟩ := List.getElem_of_mem hr
  have : n ≠ i := by rintro rfl; exact hn rfl
  have e4 : (l.set i x)[n]'(by simpa using hn') = l[n] := by rw [List.getElem_set_ne (Ne.symm this)]
  rw [← e4]; exact List.getElem_mem _

theorem PM.Law.more (h : m.Law a R P) {i : Nat} (hi : i < m.req.length) (h0 : m.req[i].stage = 0) (b : ByteArray) : ({ m with req := m.req.set i { m.req[i] with body := b } } : PM).Law a R P := by
  refine h.of rfl (fun _ _ => .inl rfl) (fun j _ _ _ r hr h1 h2 => ⟨r, mem_set_ne hi hr (by rintro rfl; omega), h1, h2⟩) ?_ (fun r hr => ?_) (fun r hr h2 => ?_) (fun r hr => ?_)
  · have e := map_set_key m.req i { m.req[i] with body := b } hi rfl
    show ((m.req.set i { m.req[i] with body := b }).map keyR).Nodup
    rw [e]; exact h.dis
  · rcases List.mem_or_eq_of_mem_set hr with e | rfl
    · exact h.okc r e
    · exact h.okc m.req[i] (List.getElem_mem hi)
  · rcases List.mem_or_eq_of_mem_set hr with e | rfl
    · exact h.held r e h2
    · exact absurd (h0.symm.trans h2) (by decide)
  · rcases List.mem_or_eq_of_mem_set hr with e | rfl
    · exact h.stg r e
    · exact .inl h0

theorem more_waits {l : List Req} : ∀ {i : Nat} (hi : i < l.length) (b : ByteArray), l[i].stage = 0 → ((l.set i { l[i] with body := b }).filter fun r => r.stage == 1).length = (l.filter fun r => r.stage == 1).length := by
  induction l with
  | nil => intro i hi; simp at hi
  | cons y l ih =>
    intro i hi b h0
    cases i with
    | zero =>
      simp only [List.getElem_cons_zero] at h0 ⊢
      simp only [List.set_cons_zero]
      rw [List.filter_cons_of_neg (by simp [h0]), List.filter_cons_of_neg (by simp [h0])]
    | succ i =>
      simp only [List.getElem_cons_succ] at h0 ⊢
      simp only [List.set_cons_succ]
      have := ih (by simpa using hi) b h0
      by_cases hy : y.stage = 1
      · rw [List.filter_cons_of_pos (by simp [hy]), List.filter_cons_of_pos (by simp [hy])]
        exact congrArg Nat.succ this
      · rw [List.filter_cons_of_neg (by simp [hy]), List.filter_cons_of_neg (by simp [hy])]; exact this

/-- Those who wait are at most Q, or one alone beside an Idle slot. -/
def PM.few (m : PM) (Q : Int) : Prop := (m.waits.length : Int) ≤ Q ∨ (m.waits.length ≤ 1 ∧ ∃ j, j < 6 ∧ (m.slot j).st = 2)

structure PM.Good (a : Bool) (R Q : Int) (P : Int → Prop) (m : PM) : Prop where
  law : m.Law a R P
  calm : m.Calm
  wts : (m.waits.length : Int) ≤ Q
  bl : m.set.bl ≤ Q

theorem PM.Law.good (h : m.Law a R P) (hf : m.few Q) (hb : m.set.bl ≤ Q) (h0 : 0 ≤ Q) : m.settle.Good a R Q P := by
  obtain ⟨h1, h2⟩ := h.settle
  obtain ⟨w1, w2⟩ := settle_waits m
  refine ⟨h1, h2, ?_, by rw [settle_set]; exact hb⟩
  rcases hf with e | ⟨e1, e2⟩
  · omega
  · rw [w2 e2 e1]; exact h0

theorem idleAt_some (m : PM) : ∀ n k, m.idleAt k n = true → ∃ j, k ≤ j ∧ j < k + n ∧ (m.slot j).st = 2
  | 0, _, h => by cases h
  | n + 1, k, h => by
    simp only [PM.idleAt] at h
    cases hs : ((m.slot k).st == 2)
    · rw [hs] at h
      obtain ⟨j, h1, h2, h3⟩ := idleAt_some m n (k + 1) h
      exact ⟨j, by omega, by omega, h3⟩
    · exact ⟨k, Nat.le_refl _, by omega, by simpa using hs⟩

theorem PM.Good.enqueue (h : m.Good a R Q P) {k : Nat} (hk : k < 4) (hP : P k) {i : Int} (hst : ∀ r ∈ m.req, keyR r = ((k : Int), i) → r.stage = 0) (body : ByteArray) : (m.enqueue k i body).Law a R P ∧ (m.enqueue k i body).few Q := by
  unfold PM.enqueue
  cases hr : m.room
  · exact ⟨h.law.endKey _ _ _, .inl (Int.le_trans (by exact_mod_cast waits_sub (endKey_sub m k i 2)) h.wts)⟩
  · refine ⟨h.law.wait hk hP hst body, ?_⟩
    have hl : ({ m with req := withoutL m.req k i ++ [⟨k, i, 1, body⟩] } : PM).waits.length ≤ m.waits.length + 1 := by
      unfold PM.waits
      simp only [List.length_map, List.filter_append, List.length_append]
      have h1 : ((withoutL m.req k i).filter fun r => r.stage == 1).length ≤ (m.req.filter fun r => r.stage == 1).length := ((List.filter_sublist (p := fun r => !isKey k i r)).filter _).length_le
      have h2 : (([⟨k, i, 1, body⟩] : List Req).filter fun r => r.stage == 1).length = 1 := rfl
      omega
    simp only [cond_true]
    unfold PM.room at hr
    rcases Bool.or_eq_true_iff.1 hr with e | e
    · obtain ⟨j, -, h6, hs⟩ := idleAt_some m 6 0 e
      right
      have := h.calm.rest ⟨j, by omega, hs⟩
      rw [this] at hl
      exact ⟨hl, j, by omega, hs⟩
    · left
      have := of_decide_eq_true e
      have := h.bl
      omega

theorem PM.Good.in_ (h : m.Good a R Q P) {k : Nat} (hk : k < 4) (hP : P k) (i : Int) (c : ByteArray) : (m.in_ k i c).Law a R P ∧ (m.in_ k i c).few Q := by
  unfold PM.in_
  cases hf : m.find k i with
  | none => exact ⟨h.law, .inl h.wts⟩
  | some b =>
    obtain ⟨hal, e1, e2⟩ := m.find_some k i b hf
    have hgd : m.req.getD b noReq = m.req[b] := by simp [List.getD, List.getElem?_eq_getElem hal]
    simp only [hgd]
    unfold PM.inAt
    cases h0 : (m.req[b].stage == 0)
    · exact ⟨h.law, .inl h.wts⟩
    · have h0' : m.req[b].stage = 0 := by simpa using h0
      cases (c.toList == [])
      · cases decide (500 < (m.req[b].body ++ c).size)
        · refine ⟨h.law.more hal h0' _, .inl ?_⟩
          have := more_waits hal (m.req[b].body ++ c) h0'
          have h2 := h.wts
          unfold PM.waits at h2 ⊢
          simp only [List.length_map] at h2 ⊢
          exact Int.le_trans (Int.le_of_eq (congrArg Int.ofNat this)) h2
        · exact ⟨h.law.endKey _ _ _, .inl (Int.le_trans (by exact_mod_cast waits_sub (endKey_sub m k i 4)) h.wts)⟩
      · refine h.enqueue hk hP (fun r hr e => ?_) _
        have : r = m.req[b] := nodup_key h.law.dis hr (List.getElem_mem hal) (e.trans (by simp [keyR, e1, e2]))
        rw [this]; exact h0'

theorem PM.Good.begin_ (h : m.Good a R Q P) {k : Nat} (hk : k < 4) (hP : P k) {i : Int} (hno : m.find k i = none) (role : ByteArray) : (m.begin_ k i role).Law a R P ∧ (m.begin_ k i role).few Q := by
  unfold PM.begin_
  cases (role.toList == [1])
  · exact ⟨h.law.endKey _ _ _, .inl (Int.le_trans (by exact_mod_cast waits_sub (endKey_sub m k i 3)) h.wts)⟩
  · cases decide ((m.keysOf k).length ≥ 4)
    · refine ⟨h.law.add hk hP hno, .inl ?_⟩
      have h2 := h.wts
      have h3 : (([newReq k i] : List Req).filter fun r => r.stage == 1) = [] := rfl
      unfold PM.waits at h2 ⊢
      simp only [cond_false, cond_true, List.filter_append, h3, List.append_nil]
      exact h2
    · exact ⟨h.law.endKey _ _ _, .inl (Int.le_trans (by exact_mod_cast waits_sub (endKey_sub m k i 2)) h.wts)⟩

theorem PM.Law.busy (h : m.Law a R P) {k : Nat} (hk : k < 6) (hc : (m.slot k).conn ≠ -1) : (m.slot k).st = 3 := by
  by_cases e : (m.slot k).st = 3
  · exact e
  · exact absurd ((h.loc k hk).idle e).2 hc

theorem PM.Law.killOf (h : m.Law a R P) (c : Nat) (i st : Int) : ((m.killAt (m.slotOf c i)).endKey c i st).Law a R P := by
  cases hf : m.slotOf c i with
  | none => exact h.endKey c i st
  | some b =>
    obtain ⟨-, hb, hh⟩ := bd_slotFrom_yes hf
    simp only [PM.slotHas, Bool.and_eq_true, beq_iff_eq] at hh
    have hb6 : b < 6 := by omega
    have hbk : keyS (m.slot b) = ((c : Int), i) := by simp [keyS, hh.1, hh.2]
    have hbc : (m.slot b).conn ≠ -1 := by rw [hh.1]; omega
    have hkb : ((m.kill b).slot b).conn = -1 := by simp [PM.kill, PM.becomesAt, PSlot.becomes]
    have hko : ∀ s, s ≠ b → (m.kill b).slot s = m.slot s := fun s e => by simp [PM.kill, PM.becomesAt, upd_other _ _ e]
    have two1 : ∀ s t, s < 6 → t < 6 → s ≠ t → (((m.kill b).sendB c (encB 3 i (strOfNums [st]))).slot s).conn ≠ -1 → keyS (((m.kill b).sendB c (encB 3 i (strOfNums [st]))).slot s) ≠ keyS (((m.kill b).sendB c (encB 3 i (strOfNums [st]))).slot t) := by
      intro s t hs ht hst hc e
      have hc' : ((m.kill b).slot s).conn ≠ -1 := hc
      have e' : keyS ((m.kill b).slot s) = keyS ((m.kill b).slot t) := e
      by_cases es : s = b
      · rw [es] at hc'; exact hc' hkb
      · by_cases et : t = b
        · have := congrArg Prod.fst e'
          simp only [keyS] at this
          rw [et, hkb] at this; exact hc' this
        · rw [hko s es] at hc' e'
          rw [hko t et] at e'
          exact h.two s t hs ht hst hc' e'
    have hs : ∀ k, k < 6 → ((m.kill b).endKey c i st).slot k = (m.kill b).slot k := by
      intro k hk
      rcases drop_slots ((m.kill b).sendB c (encB 3 i (strOfNums [st]))) c i two1 (by omega) k hk with ⟨e, -⟩ | ⟨-, e⟩
      · exact e
      · exfalso
        have e' : keyS ((m.kill b).slot k) = ((c : Int), i) := e
        by_cases ek : k = b
        · have := congrArg Prod.fst e'
          simp only [keyS] at this
          rw [ek, hkb] at this; omega
        · rw [hko k ek] at e'
          exact h.two b k hb6 hk (Ne.symm ek) hbc (hbk.trans e'.symm)
    have hne : ∀ k, k < 6 → k ≠ b → keyS (m.slot k) ≠ ((c : Int), i) := fun k hk ek e => h.two b k hb6 hk (Ne.symm ek) hbc (hbk.trans e.symm)
    show ((m.kill b).endKey c i st).Law a R P
    refine h.of (endKey_set _ c i st) (fun k hk => ?_) (fun k hk e hn r hr h1 h2 => ?_) ?_ (fun r hr => ?_) (fun r hr h2 => ?_) (fun r hr => ?_)
    · rw [hs k hk]
      by_cases ek : k = b
      · right
        subst ek
        have h3 := h.busy hk hbc
        refine ⟨?_, hkb, .inr (by omega)⟩
        have := becomes_fine (st := 4) (h.loc k hk) (by decide) (by decide) (fun e => by cases e)
        simpa [PM.kill, PM.becomesAt] using this
      · left; exact hko k ek
    · refine ⟨r, ?_, h1, h2⟩
      rw [endKey_req]
      refine List.mem_filter.2 ⟨hr, ?_⟩
      cases hi : isKey c i r
      · rfl
      · exfalso
        have ek : k = b := by
          by_cases ek : k = b
          · exact ek
          · exact absurd (h1.symm.trans (isKey_iff.1 hi)) (hne k hk ek)
        subst ek
        rw [hs k hk] at e
        rw [e] at hkb
        exact hn hkb
    · rw [endKey_req]; exact ((List.filter_sublist).map keyR).nodup h.dis
    · rw [endKey_req] at hr; exact h.okc r (List.mem_filter.1 hr).1
    · rw [endKey_req] at hr
      obtain ⟨hr1, hr2⟩ := List.mem_filter.1 hr
      obtain ⟨k, hk, e⟩ := h.held r hr1 h2
      refine ⟨k, hk, ?_⟩
      have ek : k ≠ b := by
        rintro rfl
        rw [isKey_iff.2 (e.symm.trans hbk)] at hr2; cases hr2
      rw [hs k hk, hko k ek]; exact e
    · rw [endKey_req] at hr; exact h.stg r (List.mem_filter.1 hr).1

theorem killAt_req (m : PM) (x : Option Nat) : (m.killAt x).req = m.req ∧ (m.killAt x).set = m.set := by cases x <;> exact ⟨rfl, rfl⟩

theorem PM.Good.abort (h : m.Good a R Q P) (k : Nat) (i : Int) : (m.abort k i).Law a R P ∧ (m.abort k i).few Q := by
  unfold PM.abort
  cases hf : m.find k i with
  | none => exact ⟨h.law, .inl h.wts⟩
  | some b =>
    refine ⟨h.law.killOf k i 5, .inl (Int.le_trans ?_ h.wts)⟩
    have := endKey_sub (m.killAt (m.slotOf k i)) k i 5
    rw [(killAt_req m _).1] at this
    exact_mod_cast waits_sub this

theorem PM.Good.take (h : m.Good a R Q P) {k : Nat} (hk : k < 4) (hP : P k) (r : Rec) (hag : m.again k r.2.1 r.1 = false) : (m.take k r).Law a R P ∧ (m.take k r).few Q := by
  unfold PM.take
  split
  · rename_i h1
    refine h.begin_ hk hP ?_ _
    unfold PM.again at hag
    rw [h1] at hag
    simpa using hag
  · split
    · exact h.in_ hk hP _ _
    · split
      · exact h.abort _ _
      · exact ⟨h.law, .inl h.wts⟩

theorem take_set (m : PM) (k : Nat) (r : Rec) : (m.take k r).set = m.set := by
  unfold PM.take
  split
  · unfold PM.begin_
    cases (r.2.2.toList == [1])
    · exact endKey_set _ _ _ _
    · cases decide ((m.keysOf k).length ≥ 4)
      · rfl
      · exact endKey_set _ _ _ _
  split
  · unfold PM.in_
    cases m.find k r.2.1 with
    | none => rfl
    | some b =>
      simp only []
      unfold PM.inAt PM.enqueue
      cases ((m.req.getD b noReq).stage == 0)
      · rfl
      · cases (r.2.2.toList == [])
        · cases decide (500 < ((m.req.getD b noReq).body ++ r.2.2).size)
          · rfl
          · exact endKey_set _ _ _ _
        · cases m.room
          · exact endKey_set _ _ _ _
          · rfl
  split
  · unfold PM.abort
    cases m.find k r.2.1 with
    | none => rfl
    | some b =>
      simp only []
      rw [endKey_set, (killAt_req m _).2]
  · rfl

end
end Go.Proofs.Ytlafkpaljibonaa

namespace Go.Proofs.Ytlafkpaljibonaa
open Go.RowKit

/-- The connection is open. -/
def PM.opn (m : PM) (c : Int) : Prop := (m.con c.toNat).op = true

section
variable {m m' : PM} {a : Bool} {R Q : Int} {P : Int → Prop}

def PM.Sure (a : Bool) (R Q : Int) (m : PM) : Prop := m.Good a R Q m.opn

theorem PM.Good.con (h : m'.Good a R Q m.opn) (hc : ConSame m m') : m'.Sure a R Q :=
  ⟨h.law.imp fun r _ e => by unfold PM.opn at *; rw [(hc _).1]; exact e, h.calm, h.wts, h.bl⟩

theorem usedTo_st (h : ∀ k, (m'.slot k).st = (m.slot k).st) (n : Nat) : m'.usedTo n = m.usedTo n := by
  induction n with
  | zero => rfl
  | succ n ih => simp only [PM.usedTo, ih, h]

/-- Requests are struck, slots keep their states. -/
theorem PM.Good.less (h : m.Good a R Q P) {P' : Int → Prop} (hl : m'.Law a R P') (hs : ∀ k, (m'.slot k).st = (m.slot k).st) (hr : m'.req.Sublist m.req) (he : m'.set = m.set) : m'.Good a R Q P' := by
  have hw := waits_sub hr
  refine ⟨hl, ⟨fun ⟨j, hj, e⟩ => ?_, fun e => ?_⟩, ?_, by rw [he]; exact h.bl⟩
  · have := h.calm.rest ⟨j, hj, by rw [← hs]; exact e⟩
    rw [this] at hw
    exact List.length_eq_zero_iff.1 (by simpa using hw)
  · rw [he] at e ⊢
    rw [usedTo_st hs]; exact h.calm.full e
  · have := h.wts; omega

theorem dropAll_law (l : List (Int × Int)) : ∀ {m : PM}, m.Law a R P → (∀ x ∈ l, x.1 ≠ -1) → (m.dropAll l).Law a R P := by
  induction l with
  | nil => intro m h _; exact h
  | cons x l ih => intro m h hx; exact ih (h.drop (hx x (List.mem_cons_self ..)) x.2) fun y hy => hx y (List.mem_cons_of_mem _ hy)
theorem dropAll_st (l : List (Int × Int)) : ∀ (m : PM) k, ((m.dropAll l).slot k).st = (m.slot k).st := by
  induction l with
  | nil => intro m k; rfl
  | cons x l ih => intro m k; exact (ih (m.drop x.1 x.2) k).trans (drop_st m x.1 x.2 k).1
theorem dropAll_set (l : List (Int × Int)) : ∀ (m : PM), (m.dropAll l).set = m.set := by
  induction l with
  | nil => intro m; rfl
  | cons x l ih => intro m; exact (ih (m.drop x.1 x.2)).trans (drop_set m x.1 x.2)
theorem dropAll_sub (l : List (Int × Int)) : ∀ (m : PM), (m.dropAll l).req.Sublist m.req := by
  induction l with
  | nil => intro m; exact List.Sublist.refl _
  | cons x l ih =>
    intro m
    refine (ih (m.drop x.1 x.2)).trans ?_
    rw [drop_req]; exact List.filter_sublist
theorem dropAll_out (l : List (Int × Int)) : ∀ (m : PM), ∀ r ∈ (m.dropAll l).req, keyR r ∉ l := by
  induction l with
  | nil => intro m r _ h; cases h
  | cons x l ih =>
    intro m r hr hx
    rcases List.mem_cons.1 hx with e | e
    · have h1 := (dropAll_sub l (m.drop x.1 x.2)).subset hr
      rw [drop_req] at h1
      have h2 := (List.mem_filter.1 h1).2
      rw [isKey_iff.2 (show keyR r = (x.1, x.2) from e)] at h2
      cases h2
    · exact ih (m.drop x.1 x.2) r hr e

theorem PM.Sure.close (h : m.Sure a R Q) {k : Nat} (hk : k < 4) : (m.close k).Sure a R Q := by
  have hkey : ∀ x ∈ m.keysOf k, x.1 ≠ -1 := by
    intro x hx
    obtain ⟨r, hr, rfl⟩ := List.mem_map.1 hx
    have := (List.mem_filter.1 hr).2
    have : r.conn = (k : Int) := by simpa using this
    show r.conn ≠ -1
    omega
  have hl : (m.close k).Law a R m.opn := dropAll_law _ (PM.Law.same (m' := m.shut k) h.law rfl rfl rfl) hkey
  have hsub : (m.close k).req.Sublist m.req := dropAll_sub _ (m.shut k)
  refine h.less (hl.imp fun r hr e => ?_) (dropAll_st _ _) hsub (dropAll_set _ _)
  unfold PM.opn at *
  rw [close_con]
  split
  · rename_i e2
    exfalso
    obtain ⟨n, hn, e3⟩ := (hl.okc r hr).1
    have e4 : r.conn = (k : Int) := by omega
    refine dropAll_out (m.keysOf k) (m.shut k) r hr ?_
    exact List.mem_map.2 ⟨r, List.mem_filter.2 ⟨hsub.subset hr, by simp [e4]⟩, rfl⟩
  · exact e

theorem PM.Sure.same (h : m.Sure a R Q) (hset : m'.set = m.set) (hs : m'.slot = m.slot) (hr : m'.req = m.req) (ho : ∀ c, m.opn c → m'.opn c) : m'.Sure a R Q :=
  h.less ((h.law.same hset hs hr).imp fun r _ e => ho _ e) (fun k => by rw [hs]) (by rw [hr]; exact List.Sublist.refl _) hset

theorem PM.Sure.setRest (h : m.Sure a R Q) (k : Nat) (s : ByteArray) : (m.setRest k s).Sure a R Q := by
  refine h.same rfl rfl rfl fun c e => ?_
  unfold PM.opn at *
  simp only [PM.setRest, upd]
  split
  · rename_i e2; rw [← e2]; exact e
  · exact e

theorem PM.Sure.pos (h : m.Sure a R Q) : 0 ≤ Q := Int.le_trans (Int.natCast_nonneg _) h.wts

theorem PM.Sure.takeAll {k : Nat} (hk : k < 4) (all : ByteArray) : ∀ (f : Nat) {m : PM} (t : Nat), m.Sure a R Q → m.opn k → (PM.takeAll k all f m t).Sure a R Q
  | 0, m, t, h, _ => h.setRest k _
  | f + 1, m, t, h, ho => by
    unfold PM.takeAll
    split
    · exact h.setRest k _
    · split
      · exact h.close hk
      · cases hag : m.again k (recT (left all t)).2.1 (recT (left all t)).1
        · obtain ⟨h1, h2⟩ := h.take hk ho (recT (left all t)) hag
          have hc := (ConSame.take m k (recT (left all t))).trans (ConSame.settle _)
          refine PM.Sure.takeAll hk all f _ ((h1.good h2 (by rw [take_set]; exact h.bl) h.pos).con hc) ?_
          unfold PM.opn at *
          rw [(hc _).1]; exact ho
        · exact h.close hk

theorem PM.Sure.afterConnect (h : m.Sure a R Q) (n : Int) : (m.afterConnect n).Sure a R Q := by
  unfold PM.afterConnect
  cases (isC n && !(m.con n.toNat).op)
  · exact h
  · refine h.same rfl rfl rfl fun c e => ?_
    unfold PM.opn at *
    simp only [PM.connect, cond_true, upd]
    split
    · rfl
    · exact e
theorem chk_open {m : PM} {n : Int} (h : m.chk n = 0) : ∃ k : Nat, k < 4 ∧ n = k ∧ m.opn k := by
  rcases isC_cases n with h0 | ⟨h0, k, hk, e'⟩
  · simp [PM.chk, h0] at h
  · subst e'
    refine ⟨k, hk, rfl, ?_⟩
    unfold PM.chk at h
    rw [h0] at h
    unfold PM.opn
    cases ho : (m.con (k : Int).toNat).op
    · rw [ho] at h; cases h
    · rfl
theorem PM.Sure.afterHangup (h : m.Sure a R Q) (n : Int) : (m.afterHangup n).Sure a R Q := by
  unfold PM.afterHangup
  by_cases e : m.chk n = 0
  · obtain ⟨k, hk, rfl, -⟩ := chk_open e
    rw [e]; exact h.close hk
  · rw [show (m.chk n == 0) = false by simpa using e]; exact h
theorem PM.Sure.afterFeed (h : m.Sure a R Q) (n : Int) (s : ByteArray) : (m.afterFeed n s).Sure a R Q := by
  unfold PM.afterFeed
  by_cases e : m.chk n = 0
  · obtain ⟨k, hk, rfl, ho⟩ := chk_open e
    rw [e]; exact PM.Sure.takeAll hk _ _ _ h ho
  · rw [show (m.chk n == 0) = false by simpa using e]; exact h

theorem bdStE {m : PM} {n st : Int} (h : (m.stE n st == 0) = true) : ∃ k : Nat, k < 6 ∧ n = k ∧ (m.slot k).st = st := by
  have h' : m.stE n st = 0 := by simpa using h
  unfold PM.stE at h'
  cases hs : isS n
  · rw [hs] at h'; cases h'
  · have hs' := hs
    simp only [isS, Bool.and_eq_true, decide_eq_true_eq] at hs'
    rw [hs] at h'
    refine ⟨n.toNat, by omega, by omega, ?_⟩
    cases e : ((m.slot n.toNat).st == st)
    · simp [e] at h'
    · simpa using e

theorem PM.Law.spawned0 (h : m.Law a R P) {k : Nat} (hk : k < 6) (e : (m.slot k).st = 1) : (cond (m.slot k).old (m.kill k) (m.becomesAt k 2)).Law a R P := by
  cases ho : (m.slot k).old
  · refine h.idle (fun _ => ⟨by omega, ho, fun ha hm => ?_⟩) ((h.loc k hk).idle (by omega)).2
    rw [((h.loc k hk).srv ha hm).2.2.2 e]; exact hm
  · exact h.kill (fun _ => by omega) ((h.loc k hk).idle (by omega)).2

theorem PM.Law.finished0 (h : m.Law a R P) {k : Nat} (hk : k < 6) (e : (m.slot k).st = 3) : ((m.endKeyOf k 0).retires k).Law a R P := by
  have hl := h.endKeyOf k 0
  have hcn := h.endKeyOf_conn hk 0
  have hst := endKeyOf_st m k 0 k
  generalize m.endKeyOf k 0 = m1 at *
  unfold PM.retires
  cases hg : m1.mustGo k
  · refine hl.idle (fun _ => ⟨by omega, ?_, fun _ hm => ?_⟩) hcn
    · simp only [PM.mustGo, Bool.or_eq_false_iff] at hg; exact hg.1
    · simp only [PM.mustGo, Bool.or_eq_false_iff, Bool.and_eq_false_iff, decide_eq_false_iff_not] at hg
      rcases hg.2 with x | x
      · exact absurd hm x
      · omega
  · exact hl.kill (fun _ => by omega) hcn

theorem PM.Law.died0 (h : m.Law a R P) {k : Nat} (hk : k < 6) : ((m.endKeyOf k 1).empties k).Law a R P := (h.endKeyOf k 1).empties (h.endKeyOf_conn hk 1)

theorem PM.Sure.afterSpawned (h : m.Sure a R Q) (n : Int) : (m.afterSpawned n).Sure a R Q := by
  unfold PM.afterSpawned
  cases hst : (m.stE n 1 == 0)
  · exact h
  · obtain ⟨k, hk, rfl, e⟩ := bdStE hst
    simp only [cond_true, Int.toNat_natCast]
    unfold PM.spawned
    have hx : (cond (m.slot k).old (m.kill k) (m.becomesAt k 2)).Law a R m.opn ∧ (cond (m.slot k).old (m.kill k) (m.becomesAt k 2)).req = m.req ∧ (cond (m.slot k).old (m.kill k) (m.becomesAt k 2)).con = m.con ∧ (cond (m.slot k).old (m.kill k) (m.becomesAt k 2)).set = m.set :=
      ⟨h.law.spawned0 hk e, by cases (m.slot k).old <;> exact ⟨rfl, rfl, rfl⟩⟩
    refine PM.Good.con (hx.1.good (.inl ?_) (by rw [hx.2.2.2]; exact h.bl) h.pos) ((ConSame.of_eq hx.2.2.1).trans (ConSame.settle _))
    have := h.wts
    unfold PM.waits at this ⊢
    rw [hx.2.1]; exact this

theorem outN_same (c : Nat) (i : Int) : ∀ (f : Nat) (m : PM) (t : ByteArray), (PM.outN c i f m t).slot = m.slot ∧ (PM.outN c i f m t).req = m.req ∧ (PM.outN c i f m t).set = m.set
  | 0, _, _ => ⟨rfl, rfl, rfl⟩
  | f + 1, m, t => by
    unfold PM.outN
    split
    · exact ⟨rfl, rfl, rfl⟩
    · exact outN_same c i f _ _

theorem PM.Sure.afterOutput (h : m.Sure a R Q) (n : Int) (s : ByteArray) : (m.afterOutput n s).Sure a R Q := by
  unfold PM.afterOutput
  cases hst : (m.stE n 3 == 0)
  · exact h
  · obtain ⟨k, hk, rfl, e⟩ := bdStE hst
    simp only [cond_true, Int.toNat_natCast]
    unfold PM.outputs
    have hx : ∀ m', m'.slot = m.slot → m'.req = m.req → m'.set = m.set → ConSame m m' → m'.settle.Sure a R Q := by
      intro m' h1 h2 h3 h4
      refine PM.Good.con ((h.law.same h3 h1 h2).good (.inl ?_) (by rw [h3]; exact h.bl) h.pos) (h4.trans (ConSame.settle _))
      have := h.wts
      unfold PM.waits at this ⊢
      rw [h2]; exact this
    cases ((m.slot k).conn != -1)
    · exact hx m rfl rfl rfl (ConSame.refl _)
    · unfold PM.sendOut
      obtain ⟨e1, e2, e3⟩ := outN_same (m.slot k).conn.toNat (m.slot k).id s.size m s
      exact hx _ e1 e2 e3 (ConSame.outN _ _ _ _ _)

theorem PM.Sure.last (h : m.Sure a R Q) (hl : m'.Law a R m.opn) (hr : m'.req.Sublist m.req) (hset : m'.set = m.set) (hc : ConSame m m') : m'.settle.Sure a R Q := by
  refine PM.Good.con (hl.good (.inl ?_) (by rw [hset]; exact h.bl) h.pos) (hc.trans (ConSame.settle _))
  have := h.wts
  have := waits_sub hr
  omega

theorem PM.Sure.afterFinished (h : m.Sure a R Q) (n : Int) : (m.afterFinished n).Sure a R Q := by
  unfold PM.afterFinished
  cases hst : (m.stE n 3 == 0)
  · exact h
  · obtain ⟨k, hk, rfl, e⟩ := bdStE hst
    simp only [cond_true, Int.toNat_natCast]
    unfold PM.finished
    refine h.last (h.law.finished0 hk e) ?_ ?_ ?_
    · unfold PM.retires
      cases (m.endKeyOf k 0).mustGo k <;> exact endKeyOf_sub m k 0
    · unfold PM.retires
      cases (m.endKeyOf k 0).mustGo k <;> exact bdEndOf_set m k 0
    · unfold PM.retires
      cases (m.endKeyOf k 0).mustGo k <;> exact ConSame.endKeyOf m k 0

theorem PM.Sure.afterDied (h : m.Sure a R Q) (n : Int) : (m.afterDied n).Sure a R Q := by
  unfold PM.afterDied
  cases hd : (m.diedE n == 0)
  · exact h
  · have hn : n.toNat < 6 := by
      unfold PM.diedE at hd
      cases hs : isS n
      · rw [hs] at hd; simp at hd
      · simp only [isS, Bool.and_eq_true, decide_eq_true_eq] at hs; omega
    exact h.last (h.law.died0 hn) (endKeyOf_sub m _ 1) (bdEndOf_set m _ 1) (ConSame.endKeyOf m _ 1)

theorem lateTo_law (h : m.Law a R P) : ∀ k, k ≤ 6 → (m.lateTo k).Law a R P ∧ (m.lateTo k).req.Sublist m.req ∧ (m.lateTo k).set = m.set
  | 0, _ => ⟨h, List.Sublist.refl _, rfl⟩
  | k + 1, hk => by
    obtain ⟨h1, h2, h3⟩ := lateTo_law h k (by omega)
    have e : m.lateTo (k + 1) = cond ((m.lateTo k).lateAt k) (((m.lateTo k).endKeyOf k 6).kill k) (m.lateTo k) := rfl
    rw [e]
    cases hl : (m.lateTo k).lateAt k
    · exact ⟨h1, h2, h3⟩
    · have h4 : ((m.lateTo k).slot k).st = 3 := by
        simp only [PM.lateAt, Bool.and_eq_true, beq_iff_eq] at hl; exact hl.1
      refine ⟨(h1.endKeyOf k 6).kill (fun _ => ?_) (h1.endKeyOf_conn (by omega) 6), (endKeyOf_sub _ k 6).trans h2, (bdEndOf_set _ k 6).trans h3⟩
      rw [(endKeyOf_st _ k 6 k).1, h4]; decide

theorem lastTo_some {m : PM} : ∀ {n k : Nat}, m.lastTo n = some k → k < n ∧ (m.slot k).st = 2
  | 0, _, h => by cases h
  | n + 1, k, h => by
    simp only [PM.lastTo] at h
    cases hs : ((m.slot n).st == 2)
    · rw [hs] at h
      have := lastTo_some (n := n) h
      exact ⟨by omega, this.2⟩
    · rw [hs] at h
      simp only [cond_true, Option.some.injEq] at h
      subst h
      exact ⟨by omega, by simpa using hs⟩

theorem PM.Law.spares (h : m.Law a R P) : m.spares.Law a R P ∧ m.spares.req = m.req ∧ m.spares.set = m.set := by
  unfold PM.spares
  cases hc : (decide (m.freshTo 6 < m.set.mn) && decide (m.usedTo 6 < m.set.ch))
  · cases decide (m.set.mx < m.inTo 2 6)
    · exact ⟨h, rfl, rfl⟩
    · simp only [cond_false, cond_true]
      unfold PM.killLast
      cases hl : m.lastTo 6 with
      | none => exact ⟨h, rfl, rfl⟩
      | some k =>
        obtain ⟨h1, h2⟩ := lastTo_some hl
        exact ⟨h.kill (fun _ => by omega) ((h.loc k h1).idle (by omega)).2, rfl, rfl⟩
  · simp only [Bool.and_eq_true, decide_eq_true_eq] at hc
    simp only [cond_true]
    unfold PM.startOne
    cases he : m.emptyTo 6 with
    | none => exact ⟨h, rfl, rfl⟩
    | some k =>
      obtain ⟨h1, h2⟩ := PM.emptyTo_lt he
      have := h.ch
      exact ⟨h.start h1 h2 (by omega), rfl, rfl⟩

theorem PM.Sure.tick (h : m.Sure a R Q) : m.tick.Sure a R Q := by
  have h1 : m.ticked.Law a R m.opn := h.law.same rfl rfl rfl
  have h2 : m.ticked.late.Law a R m.opn ∧ m.ticked.late.req.Sublist m.req ∧ m.ticked.late.set = m.set := by
    unfold PM.late
    cases decide (0 < m.ticked.set.tmo)
    · exact ⟨h1, List.Sublist.refl _, rfl⟩
    · exact lateTo_law h1 6 (Nat.le_refl _)
  unfold PM.tick
  have hc := ConSame.tickS m
  unfold PM.tickS at *
  cases hd : m.set.dyn
  · rw [hd] at hc
    exact h.last h2.1 h2.2.1 h2.2.2 hc
  · rw [hd] at hc
    obtain ⟨h3, h4, h5⟩ := h2.1.spares
    exact h.last h3 (by rw [cond_true, h4]; exact h2.2.1) (h5.trans h2.2.2) hc

theorem agesTo_law (h : m.Law true R P) : ∀ k, k ≤ 6 → (m.agesTo k).Law true R P ∧ (m.agesTo k).set = m.set
  | 0, _ => ⟨h, rfl⟩
  | k + 1, hk => by
    obtain ⟨ih, es⟩ := agesTo_law h k (by omega)
    have e : m.agesTo (k + 1) = (m.agesTo k).agesAt k := rfl
    rw [e]
    unfold PM.agesAt
    cases h2 : (((m.agesTo k).slot k).st == 2)
    · cases h3 : (((m.agesTo k).slot k).st == 1 || ((m.agesTo k).slot k).st == 3)
      · exact ⟨ih, es⟩
      · refine ⟨?_, es⟩
        have h2' : ((m.agesTo k).slot k).st ≠ 2 := by simpa using h2
        simp only [cond_false, cond_true]
        generalize m.agesTo k = m1 at *
        have hs : ∀ j, ((m1.oldAt k).slot j).st = (m1.slot j).st ∧ ((m1.oldAt k).slot j).since = (m1.slot j).since ∧ ((m1.oldAt k).slot j).conn = (m1.slot j).conn ∧ ((m1.oldAt k).slot j).id = (m1.slot j).id ∧ (((m1.oldAt k).slot j).old = (m1.slot j).old ∨ (m1.slot j).st ≠ 2) := by
          intro j
          by_cases ej : j = k
          · subst ej; simp [PM.oldAt, h2']
          · simp [PM.oldAt, upd_other _ _ ej]
        have hk : ∀ j, keyS ((m1.oldAt k).slot j) = keyS (m1.slot j) := fun j => by simp only [keyS, (hs j).2.2.1, (hs j).2.2.2.1]
        refine ⟨ih.cfg, ih.ch, fun j hj => ?_, fun j hj => ?_, fun i j hi hj hij hc => ?_, ih.dis, ih.okc, ?_, fun r hr h2 => ?_, ih.stg⟩
        · have hl := ih.loc j hj
          obtain ⟨a1, a2, a3, a4, a5⟩ := hs j
          refine ⟨by rw [a1]; exact hl.dom, fun x => ?_, fun x => ?_, fun x => ?_, fun x => by cases x⟩
          · rw [a2, a3]; exact hl.idle (by rw [← a1]; exact x)
          · rw [a4]; exact hl.none (by rw [← a3]; exact x)
          · rw [a1] at x
            rcases a5 with y | y
            · rw [y]; exact hl.new x
            · exact absurd x y
        · rw [hk, (hs j).2.2.1]; exact ih.key j hj
        · rw [hk, hk]; exact ih.two i j hi hj hij (by rw [← (hs i).2.2.1]; exact hc)
        · rw [usedTo_st (fun j => (hs j).1)]; exact ih.used
        · obtain ⟨j, hj, e⟩ := ih.held r hr h2
          exact ⟨j, hj, by rw [hk]; exact e⟩
    · have h3 : ((m.agesTo k).slot k).st = 2 := by simpa using h2
      exact ⟨ih.kill (fun _ => by omega) ((ih.loc k (by omega)).idle (by omega)).2, es⟩

theorem PM.Sure.afterReload (h : m.Sure a R Q) {c : Cfg} (hc : c.ok = true) {R' Q' : Int} (hR : R ≤ R') (hR2 : c.ch ≤ R') (hQ : Q ≤ Q') (hQ2 : c.bl ≤ Q') : (m.afterReload c).Sure true R' Q' := by
  unfold PM.afterReload
  rw [hc]
  have h1 : (m.withSet c).Law true R' m.opn :=
    ⟨hc, hR2, fun k hk => ⟨(h.law.loc k hk).dom, (h.law.loc k hk).idle, (h.law.loc k hk).none, (h.law.loc k hk).new, fun x => by cases x⟩, h.law.key, h.law.two, h.law.dis, h.law.okc, Int.le_trans (by have := h.law.used; have e : (m.withSet c).usedTo 6 = m.usedTo 6 := usedTo_st (fun _ => rfl) 6; rw [e]; exact this) hR, h.law.held, h.law.stg⟩
  obtain ⟨h2, h3⟩ := agesTo_law h1 6 (Nat.le_refl _)
  obtain ⟨e1, e2⟩ := agesTo_same (m.withSet c) 6
  show (((m.withSet c).agesTo 6).settle).Sure true R' Q'
  have hw := h.wts
  refine PM.Good.con (h2.good (.inl ?_) (by rw [h3]; exact hQ2) (Int.le_trans h.pos hQ)) ((ConSame.of_eq (m := m) e2).trans (ConSame.settle _))
  have : ((m.withSet c).agesTo 6).waits = m.waits := by unfold PM.waits; rw [e1]; rfl
  rw [this]; omega

/-- A step that is no Reload. -/
theorem PM.Sure.doM (h : m.Sure a R Q) (x : KSt) (hx : x.ki < 8) : (m.doM x).Sure a R Q := by
  have p := pickI_bd x.kind 9 (by omega)
  unfold KSt.ki at hx
  unfold PM.doM KSt.ki
  split
  · exact h.afterConnect _
  split
  · exact h.afterHangup _
  split
  · exact h.afterFeed _ _
  split
  · exact h.afterSpawned _
  split
  · exact h.afterOutput _ _
  split
  · exact h.afterFinished _
  split
  · exact h.afterDied _
  split
  · exact h.tick
  · exfalso; omega

theorem PM.Sure.doM8 (h : m.Sure a R Q) (x : KSt) (hx : x.ki = 8) {R' Q' : Int} (hc : (setC x.set).ok = true) (hR : R ≤ R') (hR2 : (setC x.set).ch ≤ R') (hQ : Q ≤ Q') (hQ2 : (setC x.set).bl ≤ Q') : (m.doM x).Sure true R' Q' := by
  unfold PM.doM
  rw [if_neg (by omega), if_neg (by omega), if_neg (by omega), if_neg (by omega), if_neg (by omega), if_neg (by omega), if_neg (by omega), if_neg (by omega)]
  exact h.afterReload hc hR hR2 hQ hQ2

theorem PM.Sure.narrow (h : m.Sure a R Q) {R' Q' : Int} (h1 : m.set.ch ≤ R') (h2 : m.usedTo 6 ≤ R') (h3 : (m.waits.length : Int) ≤ Q') (h4 : m.set.bl ≤ Q') : m.Sure a R' Q' :=
  ⟨h.law.room h1 h2, h.calm, h3, h4⟩

theorem new_sure (c : Cfg) (hok : c.ok = true) : (newPM c).Sure false c.ch c.bl := by
  have hb := Cfg.ok_bd hok
  have h1 : (rawPM c).Law false c.ch (rawPM c).opn := by
    refine ⟨hok, Int.le_refl _, fun k hk => newSlot_fine _ 0 (by decide) (by decide), fun k hk => .inl rfl, fun j k _ _ _ hc => absurd rfl hc, List.nodup_nil, (fun r hr => by cases hr), ?_, (fun r hr => by cases hr), (fun r hr => by cases hr)⟩
    have : (rawPM c).usedTo 6 = 0 := rfl
    rw [this]; show 0 ≤ c.ch; omega
  have hbl : 0 ≤ c.bl := by simp only [Cfg.ok, Bool.and_eq_true, decide_eq_true_eq] at hok; omega
  exact PM.Good.con (h1.good (.inl hbl) (Int.le_refl _) hbl) (ConSame.settle _)

end
end Go.Proofs.Ytlafkpaljibonaa

namespace Go.Proofs.Ytlafkpaljibonaa
open Go.RowKit

/-- The keys that the first n slots have. -/
def PM.sk (m : PM) : Nat → List (Int × Int)
  | 0 => []
  | n + 1 => m.sk n ++ (if (m.slot n).conn < 0 then [] else [keyS (m.slot n)])

section
variable {m : PM} {a : Bool} {R Q : Int} {P : Int → Prop}

theorem sk_mem {x : Int × Int} : ∀ n, x ∈ m.sk n → ∃ k, k < n ∧ x = keyS (m.slot k) ∧ 0 ≤ (m.slot k).conn
  | 0, h => by cases h
  | n + 1, h => by
    rcases List.mem_append.1 h with e | e
    · obtain ⟨k, h1, h2⟩ := sk_mem n e
      exact ⟨k, by omega, h2⟩
    · split at e
      · cases e
      · exact ⟨n, by omega, List.mem_singleton.1 e, by omega⟩

theorem sk_len (m : PM) : ∀ n, (m.sk n).length ≤ n
  | 0 => Nat.le_refl _
  | n + 1 => by
    have := sk_len m n
    simp only [PM.sk, List.length_append]
    split <;> simp <;> omega

theorem PM.Law.conn (h : m.Law a R P) {k : Nat} (hk : k < 6) : (m.slot k).conn = -1 ∨ (0 ≤ (m.slot k).conn ∧ (m.slot k).conn < 4 ∧ P (m.slot k).conn ∧ ∃ r ∈ m.req, keyR r = keyS (m.slot k) ∧ r.stage = 2) := by
  rcases h.key k hk with e | ⟨r, hr, e, e2⟩
  · exact .inl e
  · right
    obtain ⟨⟨n, hn, e3⟩, hP⟩ := h.okc r hr
    have e4 : r.conn = (m.slot k).conn := congrArg Prod.fst e
    rw [e4] at e3 hP
    exact ⟨by omega, by omega, hP, r, hr, e, e2⟩

theorem PM.Law.sk_nodup (h : m.Law a R P) : ∀ n, n ≤ 6 → (m.sk n).Nodup
  | 0, _ => List.nodup_nil
  | n + 1, hn => by
    simp only [PM.sk]
    rw [List.nodup_append]
    refine ⟨PM.Law.sk_nodup h n (by omega), by split <;> simp, ?_⟩
    intro x hx y hy e
    obtain ⟨k, hk, h1, h2⟩ := sk_mem n hx
    split at hy
    · cases hy
    · rw [List.mem_singleton] at hy
      exact h.two k n (by omega) (by omega) (by omega) (by omega) (h1.symm.trans (e.trans hy))

/-- All keys that are shown. -/
def PM.shownK (m : PM) : List (Int × Int) := m.sk 6 ++ m.waits

theorem waits_mem {x : Int × Int} (h : x ∈ m.waits) : ∃ r ∈ m.req, keyR r = x ∧ r.stage = 1 := by
  obtain ⟨r, hr, rfl⟩ := List.mem_map.1 h
  obtain ⟨h1, h2⟩ := List.mem_filter.1 hr
  exact ⟨r, h1, rfl, by simpa using h2⟩

theorem PM.Law.shown_nodup (h : m.Law a R P) : m.shownK.Nodup := by
  unfold PM.shownK
  rw [List.nodup_append]
  refine ⟨h.sk_nodup 6 (Nat.le_refl _), ?_, ?_⟩
  · exact ((List.filter_sublist (p := fun r : Req => r.stage == 1)).map keyR).nodup h.dis
  · intro x hx y hy e
    obtain ⟨k, hk, h1, h2⟩ := sk_mem 6 hx
    obtain ⟨r, hr, e1, e2⟩ := waits_mem hy
    rcases h.conn hk with e3 | ⟨-, -, -, r', hr', e4, e5⟩
    · omega
    · have := nodup_key h.dis hr hr' (e1.trans (e.symm.trans (h1.trans e4.symm)))
      rw [this] at e2; omega

theorem PM.Law.shown_ok (h : m.Law a R P) {x : Int × Int} (hx : x ∈ m.shownK) : ∃ n : Nat, n < 4 ∧ x.1 = n ∧ P n := by
  rcases List.mem_append.1 hx with e | e
  · obtain ⟨k, hk, h1, h2⟩ := sk_mem 6 e
    rcases h.conn hk with e3 | ⟨h3, h4, h5, -⟩
    · omega
    · refine ⟨(m.slot k).conn.toNat, by omega, ?_, ?_⟩
      · rw [h1]; simp only [keyS]; omega
      · rw [Int.toNat_of_nonneg h3]; exact h5
  · obtain ⟨r, hr, e1, e2⟩ := waits_mem e
    obtain ⟨⟨n, hn, e3⟩, hP⟩ := h.okc r hr
    rw [e3] at hP
    exact ⟨n, hn, by rw [← e1]; exact e3, hP⟩

theorem nodup_ne {α : Type} {l : List α} (h : l.Nodup) {i k : Nat} (hi : i < l.length) (hk : k < i) : l[i] ≠ l[k]'(by omega) := by
  intro e
  have := (List.nodup_iff_pairwise_ne.1 h)
  have h2 := List.pairwise_iff_getElem.1 this k i (by omega) hi hk
  exact h2 e.symm

end
end Go.Proofs.Ytlafkpaljibonaa
