import Derived.Test.YtlafkpaljibonaaGreatJ14
namespace Go.Proofs.YtlafkpaljibonaaGreat
open Go.RowKit

theorem set_filter_off {l : List Req} {a : Nat} (ha : a < l.length) (x : Req) (p : Req → Bool) (h1 : p l[a] = false) (h2 : p x = false) : (l.set a x).filter p = l.filter p := by
  induction l generalizing a with
  | nil => simp at ha
  | cons y l ih =>
    cases a with
    | zero =>
      simp only [List.getElem_cons_zero] at h1
      simp [h1, h2]
    | succ a =>
      have := ih (a := a) (by simpa using ha) (by simpa using h1)
      simp only [List.set_cons_succ, List.filter_cons, this]

section
variable {m : PM} {M : RM}

/-- A key waits. -/
theorem Sim.waitsAt (h : Sim m M) {k a : Nat} (ha : a < m.req.length) (hkv : m.req[a].kv = (M.key k).kv) (h0 : (M.key k).is = 0) :
    Sim { m with req := withoutL m.req (M.key k).conn (M.key k).id ++ [⟨(M.key k).conn, (M.key k).id, 1, m.req[a].body⟩] } (M.waitsAt k) := by
  have hon : (M.key k).is ≠ 3 := by omega
  have hk := RM.on_lt hon
  have hkk : ∀ j, (M.waitsAt k).key j = if j = k then { M.key k with is := 1 } else M.key j := fun j => RM.set_key M hk _ j
  have e4 : m.req[a].body = (M.key k).body := by
    have := congrArg KV.body hkv
    simpa [Req.kv, RKey.kv, h0] using this
  have hne : ∀ s, s < 6 → (M.slot s).st = 3 → (M.slot s).key ≠ k := fun s hs h3 => h.busy_ne hs h3 (by omega) hon
  have hsm : ∀ s, s < 6 → _ := fun s hs => RM.same_st (M := M) (M' := M.waitsAt k) (s := s) rfl (fun h3 => by rw [hkk, if_neg (hne s hs h3)])
  have hkx : ({ M.key k with is := 1 } : RKey).kv = (⟨(M.key k).conn, (M.key k).id, 1, m.req[a].body⟩ : Req).kv := by
    simp [Req.kv, RKey.kv, e4]
  have hvm : (M.waitsAt k).view = M.view.map (fun v => if v.isK (M.key k).conn (M.key k).id then (⟨(M.key k).conn, (M.key k).id, 1, m.req[a].body⟩ : Req).kv else v) := by
    have := viewL_set M.keys k hk { M.key k with is := 1 } (by rw [RKey.on_iff, ← M.key_eq hk]; exact hon) (by rw [M.key_eq hk]) (by rw [M.key_eq hk]) h.nodup
    unfold RM.view RM.waitsAt
    rw [this, if_pos (by simp [RKey.on]), hkx]
  have hex : ∃ v ∈ M.view, v.isK (M.key k).conn (M.key k).id = true := by
    refine ⟨M.keys[k].kv, mem_view hk (RKey.on_iff.2 (by rw [← M.key_eq hk]; exact hon)), ?_⟩
    rw [KV.isK_iff, M.key_eq hk]; rfl
  have hq : ∀ j ∈ M.queue, j ≠ k := fun j hj e => h.qis j hj (by rw [e]; exact h0)
  have hback : (M.waitsAt k).back = M.back ++ [k] := by
    unfold RM.back
    rw [show (M.waitsAt k).queue = M.queue ++ [k] from rfl, List.filter_append]
    congr 1
    · apply List.filter_congr
      intro i hi
      rw [hkk, if_neg (hq i hi)]
    · simp [hkk]
  have hw : (M.waitsAt k).waits = M.waits ++ [((M.key k).conn, (M.key k).id)] := by
    unfold RM.waits
    rw [hback, List.map_append]
    congr 1
    · apply List.map_congr_left
      intro i hi
      rw [hkk, if_neg (hq i (List.mem_filter.1 hi).1)]
    · simp [hkk]
  refine ⟨h.set, h.time, h.op, h.sent, h.st, h.old, h.served, h.since, ?_, ?_, ?_, ?_, ?_, ?_, ?_, ?_, ?_, ?_, ?_, ?_, h.idle0⟩
  · intro s hs; rw [(hsm s hs).2.1]; exact h.conn s hs
  · intro s hs; rw [(hsm s hs).2.2]; exact h.id s hs
  · intro s hs e
    rw [show (M.waitsAt k).slot s = M.slot s from rfl] at e ⊢
    rw [hkk, if_neg (hne s hs e)]
    exact h.job s hs e
  · rw [hvm]
    show (List.map Req.kv (withoutL m.req (M.key k).conn (M.key k).id ++ [_])).Perm _
    rw [List.map_append, req_without, List.map_singleton]
    refine ((h.view.filter _).append_right _).trans ?_
    exact (perm_last M.view (M.key k).conn (M.key k).id _ h.nodup hex).symm
  · rw [hvm, List.map_map]
    have : (KV.key ∘ fun v => if v.isK (M.key k).conn (M.key k).id then (⟨(M.key k).conn, (M.key k).id, 1, m.req[a].body⟩ : Req).kv else v) = KV.key := by
      funext v
      show KV.key (if _ then _ else _) = _
      split
      · rename_i hv
        rw [KV.isK_iff] at hv
        rw [hv]; rfl
      · rfl
    rw [this]; exact h.nodup
  · rw [hw, ← h.waits]
    unfold PM.waits
    show List.map _ (List.filter _ (withoutL m.req (M.key k).conn (M.key k).id ++ [_])) = _
    rw [List.filter_append, List.map_append, PM.waits_filter]
    congr 1
    rw [show (List.filter (fun r => r.stage == 1) m.req).map (fun r => (r.conn, r.id)) = m.waits from rfl, h.waits]
    apply List.filter_eq_self.2
    intro p hp
    unfold RM.waits at hp
    obtain ⟨j, hj, rfl⟩ := List.mem_map.1 hp
    obtain ⟨hj1, hj2⟩ := List.mem_filter.1 hj
    simp only [beq_iff_eq] at hj2
    cases hc : ((M.key j).conn == (M.key k).conn && (M.key j).id == (M.key k).id)
    · rfl
    · simp only [Bool.and_eq_true, beq_iff_eq] at hc
      exact absurd (RM.idx h.nodup (by rw [hj2]; omega) hon hc.1 hc.2) (hq j hj1)
  · intro j t hj ht x y e
    rw [(hsm j hj).1] at x
    rw [(hsm t ht).1] at y
    exact h.one j t hj ht x y e
  · show (M.queue ++ [k]).Nodup
    rw [List.nodup_append]
    refine ⟨h.qnd, by simp, ?_⟩
    intro x hx y hy
    rw [List.mem_singleton] at hy
    rw [hy]
    exact hq x hx
  · intro i hi
    rw [hkk]
    split
    · simp
    · rename_i e
      have hi' : i ∈ M.queue ++ [k] := hi
      rw [List.mem_append, List.mem_singleton] at hi'
      rcases hi' with hi' | hi'
      · exact h.qis i hi'
      · exact absurd hi' e
  · intro i hi
    simp only [RM.waitsAt, List.length_set] at hi
    obtain ⟨c', hc', e⟩ := h.range i hi
    refine ⟨c', hc', ?_⟩
    simp only [RM.waitsAt, List.getElem_set]
    split
    · rename_i e'; subst e'; rw [M.key_eq hk]; exact e
    · exact e
  · refine ⟨?_, fun s hs e => by have := h.wf.s s hs e; simpa [RM.waitsAt] using this, h.wf.ch⟩
    intro i hi
    have hi' : i ∈ M.queue ++ [k] := hi
    rw [List.mem_append, List.mem_singleton] at hi'
    simp only [RM.waitsAt, List.length_set]
    rcases hi' with hi' | hi'
    · exact h.wf.q i hi'
    · rw [hi']; exact hk
  · intro s hs e
    rw [show (M.waitsAt k).slot s = M.slot s from rfl] at e ⊢
    rw [hkk, if_neg (hne s hs e)]
    exact h.busy s hs e

theorem RM.abortTo_none {M : RM} {k : Nat} (h : ∀ s, s < 6 → (M.live s && ((M.slot s).key == k)) = false) : ∀ n, n ≤ 6 → M.abortTo k n = M
  | 0, _ => rfl
  | n + 1, hn => by
    have ih := RM.abortTo_none h n (by omega)
    unfold RM.abortTo
    rw [ih, h n (by omega)]
    rfl

theorem RM.abortTo_some {M : RM} {k s : Nat} (hl : M.live s = true) (hk : (M.slot s).key = k) (hu : ∀ t, t < 6 → M.live t = true → (M.slot t).key = k → t = s) : ∀ n, n ≤ 6 → M.abortTo k n = if s < n then M.kill s else M
  | 0, _ => by simp [RM.abortTo]
  | n + 1, hn => by
    have ih := RM.abortTo_some hl hk hu n (by omega)
    unfold RM.abortTo
    rw [ih]
    by_cases h1 : s < n
    · rw [if_pos h1, if_pos (by omega)]
      have e : (M.kill s).slot n = M.slot n := by simp [RM.kill, upd_other _ _ (show n ≠ s by omega)]
      have e2 : (M.kill s).live n = M.live n := by
        unfold RM.live
        rw [e]; rfl
      rw [e, e2]
      cases hx : (M.live n && ((M.slot n).key == k))
      · rfl
      · simp only [Bool.and_eq_true, beq_iff_eq] at hx
        have := hu n (by omega) hx.1 hx.2
        omega
    · rw [if_neg h1]
      by_cases h2 : s = n
      · subst h2
        rw [if_pos (by omega), hl, hk]
        simp
      · rw [if_neg (by omega)]
        cases hx : (M.live n && ((M.slot n).key == k))
        · rfl
        · simp only [Bool.and_eq_true, beq_iff_eq] at hx
          exact absurd (hu n (by omega) hx.1 hx.2).symm h2

/-- An Abort. -/
theorem Sim.abort (h : Sim m M) {n : Nat} {i : Int} {k : Nat} (hf : M.find n i = some k) : Sim (m.abort n i) ((M.abortTo k 6).endKey k 5) := by
  obtain ⟨hon, hc, hi, a, ha, hma, -⟩ := h.find_some hf
  unfold PM.abort
  rw [hma]
  simp only []
  have hhas := fun s (hs : s < 6) => h.has hon s hs
  rw [hc, hi] at hhas
  cases hs : m.slotOf n i with
  | none =>
    have e : M.abortTo k 6 = M := RM.abortTo_none (fun s hs' => by rw [← hhas s hs']; exact slotFrom_none hs s (by omega) (by omega)) 6 (by omega)
    rw [e]
    have := h.endKey hon 5
    rw [hc, hi] at this
    simpa [PM.killAt] using this
  | some s =>
    obtain ⟨-, hs6, hb⟩ := slotFrom_yes hs
    have hs6 : s < 6 := by omega
    rw [hhas s hs6] at hb
    simp only [Bool.and_eq_true, beq_iff_eq] at hb
    have e : M.abortTo k 6 = M.kill s := by
      rw [RM.abortTo_some hb.1 hb.2 (fun t ht a b => h.one t s ht hs6 a hb.1 (b.trans hb.2.symm)) 6 (by omega), if_pos hs6]
    rw [e]
    have h1 := h.kill hs6
    have := h1.endKey (k := k) hon 5
    rw [show (M.kill s).key k = M.key k from rfl, hc, hi] at this
    simpa [PM.killAt] using this

theorem Sim.idle (h : Sim m M) : ∀ n k, k + n ≤ 6 → m.idleAt k n = (M.fst 2 k n).isSome
  | 0, _, _ => rfl
  | n + 1, k, hk => by
    unfold PM.idleAt RM.fst
    rw [h.st k (by omega)]
    cases ((M.slot k).st == 2)
    · exact Sim.idle h n (k + 1) (by omega)
    · rfl

theorem Sim.room (h : Sim m M) : m.room = !decide (M.first 2 = none ∧ M.set.bl ≤ (M.back.length : Int)) := by
  unfold PM.room
  rw [h.idle 6 0 (by omega), show M.fst 2 0 6 = M.first 2 from rfl, h.waits, h.set]
  have : M.waits.length = M.back.length := by simp [RM.waits]
  rw [this]
  cases M.first 2 with
  | none =>
    by_cases hb : M.set.bl ≤ (M.back.length : Int)
    · simp [hb]
      try omega
    · simp [hb]
      try omega
  | some s => simp

end
end Go.Proofs.YtlafkpaljibonaaGreat

namespace Go.Proofs.YtlafkpaljibonaaGreat
open Go.RowKit

theorem RKey.is3 (r : RKey) (h : r.is = 3) : ({ r with is := 3 } : RKey) = r := by
  cases r
  simp only at h
  subst h
  rfl

section
variable {m : PM} {M : RM}

theorem PM.endKey_set (m : PM) {a : Nat} (ha : a < m.req.length) (x : Req) (n : Nat) (i st : Int) (h1 : isKey n i m.req[a] = true) (h2 : isKey n i x = true) : ({ m with req := m.req.set a x } : PM).endKey n i st = m.endKey n i st := by
  have e : withoutL (m.req.set a x) n i = withoutL m.req n i := set_filter_off ha x _ (by simp [h1]) (by simp [h2])
  unfold PM.endKey PM.drop PM.sendB
  simp only [e]
  rfl

/-- A record is taken. -/
theorem Sim.take (h : Sim m M) {n : Nat} (hn : n < 4) (r : Rec) (hk : r.1 = 1 ∨ r.1 = 2 ∨ r.1 = 5) (hag : r.1 = 1 → M.find n r.2.1 = none) :
    Sim (m.take n r) (M.take n r.1 r.2.1 r.2.2 (plcI (M.find n r.2.1))) := by
  unfold PM.take RM.take
  by_cases h1 : r.1 = 1
  · rw [if_pos h1, if_pos h1]
    have hf := hag h1
    unfold PM.begin_ RM.opens
    have hh := h.held n
    cases (r.2.2.toList == [1])
    · exact h.beginEnd n hn r.2.1 hf 3
    · by_cases h4 : (m.keysOf n).length ≥ 4
      · have h4' : 4 ≤ M.held n := by rw [hh]; omega
        rw [decide_eq_true h4, decide_eq_true h4']
        exact h.beginEnd n hn r.2.1 hf 2
      · have h4' : ¬ 4 ≤ M.held n := by rw [hh]; omega
        rw [decide_eq_false h4, decide_eq_false h4']
        exact h.beginNew n hn r.2.1 hf
  · rw [if_neg h1, if_neg h1]
    cases hf : M.find n r.2.1 with
    | none =>
      have hm := h.find_none hf
      have e : plcI (none : Option Nat) < 0 := by simp [plcI]
      rw [if_pos e]
      rcases hk with e1 | e2 | e5
      · exact absurd e1 h1
      · rw [if_neg (by omega), if_pos e2]
        simp only [PM.abort, hm]
        exact h
      · rw [if_pos e5]
        simp only [PM.in_, hm]
        exact h
    | some k =>
      have e : ¬ plcI (some k) < 0 := by simp [plcI]
      have ek : (plcI (some k)).toNat = k := by simp [plcI]
      rw [if_neg e, ek]
      rcases hk with e1 | e2 | e5
      · exact absurd e1 h1
      · rw [if_neg (by omega), if_pos e2, if_pos e2]
        exact h.abort hf
      · rw [if_pos e5, if_neg (by omega)]
        obtain ⟨hon, hc, hi, a, ha, hma, hkv⟩ := h.find_some hf
        have e1 : m.req[a].conn = n := (congrArg KV.conn hkv).trans hc
        have e2 : m.req[a].id = r.2.1 := (congrArg KV.id hkv).trans hi
        have e3 : m.req[a].stage = (M.key k).is := congrArg KV.is hkv
        have hgd : m.req.getD a noReq = m.req[a] := by simp [List.getD, List.getElem?_eq_getElem ha]
        simp only [PM.in_, hma, hgd]
        unfold PM.inAt
        by_cases h0 : (M.key k).is = 0
        · have e4 : m.req[a].body = (M.key k).body := by
            have := congrArg KV.body hkv
            simpa [Req.kv, RKey.kv, h0] using this
          have hs : (m.req[a].stage == 0) = true := by simp [e3, h0]
          rw [hs, if_neg (by simp [h0])]
          simp only [cond_true]
          cases hE : (r.2.2.toList == [])
          · simp only [cond_false, if_true]
            rw [ByteArray.size_append, e4]
            by_cases hb : 500 < (M.key k).body.size + r.2.2.size
            · rw [decide_eq_true hb]
              simp only [cond_true]
              have h2 := h.addBody ha hkv h0 r.2.2
              have hk2 : k < M.keys.length := RM.on_lt hon
              have hkk : (M.addBody k r.2.2).key k = { M.key k with body := (M.key k).body ++ r.2.2 } := by
                have := RM.set_key M hk2 { M.key k with body := (M.key k).body ++ r.2.2 } k
                rw [if_pos rfl] at this
                exact this
              have h3 := h2.endKey (k := k) (by rw [hkk]; exact hon) 4
              rw [hkk] at h3
              simp only [hc, hi, Int.toNat_natCast] at h3
              rw [PM.endKey_set m ha _ n r.2.1 4 (by simp [isKey, e1, e2]) (by simp [isKey, e1, e2])] at h3
              exact h3
            · rw [decide_eq_false hb]
              simp only [cond_false]
              have h2 := h.addBody ha hkv h0 r.2.2
              rw [e4] at h2
              exact h2
          · simp only [cond_true, Bool.true_eq_false, if_false]
            unfold PM.enqueue
            rw [h.room]
            by_cases hr : M.first 2 = none ∧ M.set.bl ≤ (M.back.length : Int)
            · rw [if_pos hr, decide_eq_true hr]
              simp only [Bool.not_true, cond_false]
              have := h.endKey hon 2
              rw [hc, hi] at this
              simpa using this
            · rw [if_neg hr, decide_eq_false hr]
              simp only [Bool.not_false, cond_true]
              have := h.waitsAt ha hkv h0
              rw [hc, hi] at this
              exact this
        · have hs : (m.req[a].stage == 0) = false := by simp [e3, h0]
          rw [hs, if_pos h0]
          exact h

theorem Sim.took (h : Sim m M) (k n : Nat) : Sim m (M.tookAt k n) := by
  refine ⟨h.set, h.time, ?_, ?_, h.st, h.old, h.served, h.since, h.conn, h.id, h.job, h.view, h.nodup, h.waits, h.one, h.qnd, h.qis, h.range, ⟨h.wf.q, h.wf.s, h.wf.ch⟩, h.busy, h.idle0⟩
  · intro j hj
    rw [h.op j hj]
    simp only [RM.tookAt, upd]
    split
    · rename_i e; rw [e]
    · rfl
  · intro j hj
    rw [h.sent j hj]
    simp only [RM.tookAt, upd]
    split
    · rename_i e; rw [e]
    · rfl

theorem Sim.came (h : Sim m M) (k : Nat) (s : ByteArray) : Sim m (M.cameAt k s) := by
  refine ⟨h.set, h.time, ?_, ?_, h.st, h.old, h.served, h.since, h.conn, h.id, h.job, h.view, h.nodup, h.waits, h.one, h.qnd, h.qis, h.range, ⟨h.wf.q, h.wf.s, h.wf.ch⟩, h.busy, h.idle0⟩
  · intro j hj
    rw [h.op j hj]
    simp only [RM.cameAt, upd]
    split
    · rename_i e; rw [e]
    · rfl
  · intro j hj
    rw [h.sent j hj]
    simp only [RM.cameAt, upd]
    split
    · rename_i e; rw [e]
    · rfl

theorem Sim.rest (h : Sim m M) (k : Nat) (s : ByteArray) : Sim (m.setRest k s) M := by
  refine ⟨h.set, h.time, ?_, ?_, h.st, h.old, h.served, h.since, h.conn, h.id, h.job, h.view, h.nodup, h.waits, h.one, h.qnd, h.qis, h.range, h.wf, h.busy, h.idle0⟩
  · intro j hj
    rw [← h.op j hj]
    simp only [PM.setRest, upd]
    split
    · rename_i e; rw [e]
    · rfl
  · intro j hj
    rw [← h.sent j hj]
    simp only [PM.setRest, upd]
    split
    · rename_i e; rw [e]
    · rfl

theorem Sim.connect (h : Sim m M) (k : Nat) : Sim (m.connect k) (M.connect k) := by
  refine ⟨h.set, h.time, ?_, ?_, h.st, h.old, h.served, h.since, h.conn, h.id, h.job, h.view, h.nodup, h.waits, h.one, h.qnd, h.qis, h.range, ⟨h.wf.q, h.wf.s, h.wf.ch⟩, h.busy, h.idle0⟩
  · intro j hj
    simp only [PM.connect, RM.connect, upd]
    split
    · rfl
    · exact h.op j hj
  · intro j hj
    simp only [PM.connect, RM.connect, upd]
    split
    · rfl
    · exact h.sent j hj

/-- All keys of these names are over. -/
def overN (p : Int × Int) (r : RKey) : RKey := if (r.conn, r.id) = p then { r with is := 3 } else r
def RM.overP (M : RM) (p : Int × Int) : RM := { M with keys := M.keys.map (overN p) }
def RM.overL (M : RM) (l : List (Int × Int)) : RM := l.foldl RM.overP M

theorem Sim.dropP (h : Sim m M) (c : Nat) (i : Int) : Sim (m.drop c i) (M.overP (c, i)) := by
  cases hf : M.find c i with
  | none =>
    have hno := RM.find_none hf
    rw [h.drop_none hno]
    have e : M.overP (c, i) = M := by
      unfold RM.overP
      have : M.keys.map (overN (c, i)) = M.keys := by
        have hx : ∀ r ∈ M.keys, overN (c, i) r = _root_.id r := by
          intro r hr
          unfold overN
          split
          · rename_i e
            rw [Prod.mk.injEq] at e
            by_cases h3 : r.is = 3
            · exact RKey.is3 r h3
            · exact absurd ⟨e.1, e.2, h3⟩ (rfindFrom_none c i M.keys 0 hf r hr)
          · rfl
        rw [List.map_congr_left hx, List.map_id]
      rw [this]
    rw [e]; exact h
  | some k =>
    obtain ⟨hon, hc, hi, -⟩ := h.find_some hf
    have h1 := h.over hon
    rw [hc, hi] at h1
    have e : M.overP (c, i) = M.over k := by
      unfold RM.overP RM.over
      have : M.keys.map (overN (c, i)) = M.keys.set k { M.key k with is := 3 } := by
        apply List.ext_getElem (by simp)
        intro j hj1 hj2
        simp only [List.length_map] at hj1
        simp only [List.getElem_map, List.getElem_set]
        split
        · rename_i ek
          subst ek
          unfold overN
          rw [← M.key_eq hj1, if_pos (by rw [hc, hi])]
        · rename_i ek
          unfold overN
          split
          · rename_i e
            rw [Prod.mk.injEq] at e
            by_cases h3 : M.keys[j].is = 3
            · exact RKey.is3 _ h3
            · exfalso
              apply ek
              refine (RM.idx h.nodup (j := j) (k := k) (by rw [M.key_eq hj1]; exact h3) hon ?_ ?_).symm
              · rw [M.key_eq hj1, hc]; exact e.1
              · rw [M.key_eq hj1, hi]; exact e.2
          · rfl
      rw [this]
    rw [e]; exact h1

theorem Sim.dropL : ∀ (l : List (Int × Int)) {m : PM} {M : RM}, Sim m M → (∀ p ∈ l, ∃ c : Nat, p.1 = c) → Sim (m.dropAll l) (M.overL l)
  | [], _, _, h, _ => h
  | p :: l, m, M, h, hp => by
    obtain ⟨c, hc⟩ := hp p (by simp)
    have h1 := h.dropP c p.2
    have e : ((c : Int), p.2) = p := by rw [← hc]
    rw [e] at h1
    have h2 := Sim.dropL l h1 (fun q hq => hp q (by simp [hq]))
    have e2 : m.dropAll (p :: l) = (m.drop c p.2).dropAll l := by rw [← hc]; rfl
    rw [e2]
    exact h2

theorem overL_keys : ∀ (l : List (Int × Int)) (M : RM), (M.overL l).keys = M.keys.map (fun r => if (r.conn, r.id) ∈ l then { r with is := 3 } else r) ∧ (M.overL l).line = M.line ∧ (M.overL l).slot = M.slot ∧ (M.overL l).set = M.set ∧ (M.overL l).time = M.time ∧ (M.overL l).queue = M.queue
  | [], M => by
    refine ⟨?_, rfl, rfl, rfl, rfl, rfl⟩
    show M.keys = _
    rw [List.map_congr_left (g := _root_.id) (by intro r _; simp), List.map_id]
  | p :: l, M => by
    obtain ⟨a1, a2, a3, a4, a5, a6⟩ := overL_keys l (M.overP p)
    refine ⟨?_, a2, a3, a4, a5, a6⟩
    show ((M.overP p).overL l).keys = _
    rw [a1]
    show (M.keys.map (overN p)).map _ = _
    rw [List.map_map]
    apply List.map_congr_left
    intro r _
    show (if ((overN p r).conn, (overN p r).id) ∈ l then { overN p r with is := 3 } else overN p r) = _
    have e1 : (overN p r).conn = r.conn := by unfold overN; split <;> rfl
    have e2 : (overN p r).id = r.id := by unfold overN; split <;> rfl
    rw [e1, e2]
    by_cases h1 : (r.conn, r.id) = p
    · by_cases h2 : (r.conn, r.id) ∈ l
      · rw [if_pos h2, if_pos (by simp [h2])]
        unfold overN
        rw [if_pos h1]
      · rw [if_neg h2, if_pos (by simp [h1])]
        unfold overN
        rw [if_pos h1]
    · by_cases h2 : (r.conn, r.id) ∈ l
      · rw [if_pos h2, if_pos (by simp [h2])]
        unfold overN
        rw [if_neg h1]
      · rw [if_neg h2, if_neg (by simp [h1, h2])]
        unfold overN
        rw [if_neg h1]

/-- A connection is closed. -/
theorem Sim.close (h : Sim m M) (k : Nat) : Sim (m.close k) (M.close k) := by
  have hs : Sim (m.shut k) { M with line := upd M.line k { M.line k with op := false } } := by
    refine ⟨h.set, h.time, ?_, ?_, h.st, h.old, h.served, h.since, h.conn, h.id, h.job, h.view, h.nodup, h.waits, h.one, h.qnd, h.qis, h.range, ⟨h.wf.q, h.wf.s, h.wf.ch⟩, h.busy, h.idle0⟩
    · intro j hj
      simp only [PM.shut, upd]
      split
      · rfl
      · exact h.op j hj
    · intro j hj
      simp only [PM.shut, upd]
      split
      · rename_i e; subst e; exact h.sent _ hj
      · exact h.sent j hj
  have hl := Sim.dropL (m.keysOf k) hs (by
    intro p hp
    unfold PM.keysOf at hp
    obtain ⟨r, hr, rfl⟩ := List.mem_map.1 hp
    have := (List.mem_filter.1 hr).2
    exact ⟨k, by simpa using this⟩)
  unfold PM.close
  obtain ⟨a1, a2, a3, a4, a5, a6⟩ := overL_keys (m.keysOf k) { M with line := upd M.line k { M.line k with op := false } }
  have e : ({ M with line := upd M.line k { M.line k with op := false } } : RM).overL (m.keysOf k) = M.close k := by
    have ek : M.keys.map (fun r => if (r.conn, r.id) ∈ m.keysOf k then { r with is := 3 } else r) = M.keys.map (overIf k) := by
      apply List.map_congr_left
      intro r hr
      unfold overIf
      by_cases hc : r.conn = (k : Int)
      · have hc' : (r.conn == (k : Int)) = true := by simpa using hc
        rw [hc']
        simp only [cond_true]
        by_cases h3 : r.is = 3
        · split
          · rfl
          · exact (RKey.is3 r h3).symm
        · rw [if_pos]
          have hv : r.kv ∈ m.view := h.view.mem_iff.2 (List.mem_map.2 ⟨r, List.mem_filter.2 ⟨hr, RKey.on_iff.2 h3⟩, rfl⟩)
          obtain ⟨x, hx, ex⟩ := List.mem_map.1 hv
          have x1 : x.conn = r.conn := congrArg KV.conn ex
          have x2 : x.id = r.id := congrArg KV.id ex
          unfold PM.keysOf
          exact List.mem_map.2 ⟨x, List.mem_filter.2 ⟨hx, by simp [x1, hc]⟩, by rw [x1, x2]⟩
      · have hc' : (r.conn == (k : Int)) = false := by simpa using hc
        rw [hc']
        simp only [cond_false]
        rw [if_neg]
        intro hm
        unfold PM.keysOf at hm
        obtain ⟨x, hx, ex⟩ := List.mem_map.1 hm
        rw [Prod.mk.injEq] at ex
        have := (List.mem_filter.1 hx).2
        simp only [beq_iff_eq] at this
        exact hc (ex.1.symm.trans this)
    rcases hM : ({ M with line := upd M.line k { M.line k with op := false } } : RM).overL (m.keysOf k) with ⟨b1, b2, b3, b4, b5, b6⟩
    rw [hM] at a1 a2 a3 a4 a5 a6
    simp only at a1 a2 a3 a4 a5 a6
    unfold RM.close
    rw [a1, a2, a3, a4, a5, a6, ← ek]
  rw [e] at hl
  exact hl

end
end Go.Proofs.YtlafkpaljibonaaGreat

namespace Go.Proofs.YtlafkpaljibonaaGreat
open Go.RowKit

theorem firstW_get : ∀ (l : List Req) (k a : Nat), firstW l k = some a → ∃ hl : a - k < l.length, (l[a - k]).stage = 1 ∧ k ≤ a ∧ ∃ t, (l.filter fun r => r.stage == 1) = l[a - k] :: t
  | [], _, _, h => by simp [firstW] at h
  | r :: l, k, a, h => by
    have h' : cond (r.stage == 1) (some k) (firstW l (k + 1)) = some a := h
    cases hr : (r.stage == 1)
    · rw [hr] at h'
      obtain ⟨hl, h1, h2, t, ht⟩ := firstW_get l (k + 1) a h'
      have e : a - k = (a - (k + 1)) + 1 := by omega
      refine ⟨by simp only [List.length_cons]; omega, ?_, by omega, t, ?_⟩
      · simp only [e, List.getElem_cons_succ]; exact h1
      · rw [List.filter_cons_of_neg (by simp [hr]), ht]
        simp only [e, List.getElem_cons_succ]
    · rw [hr] at h'
      simp only [cond_true, Option.some.injEq] at h'
      subst h'
      refine ⟨by simp, ?_, Nat.le_refl _, (l.filter fun r => r.stage == 1), ?_⟩
      · simpa using hr
      · simp [hr]

theorem firstW_none : ∀ (l : List Req) (k : Nat), firstW l k = none → (l.filter fun r => r.stage == 1) = []
  | [], _, _ => rfl
  | r :: l, k, h => by
    have h' : cond (r.stage == 1) (some k) (firstW l (k + 1)) = none := h
    cases hr : (r.stage == 1)
    · rw [hr] at h'
      rw [List.filter_cons_of_neg (by simp [hr])]
      exact firstW_none l (k + 1) h'
    · rw [hr] at h'; simp at h'

theorem PM.fw_some {m : PM} {a : Nat} (h : m.fw = some a) : ∃ ha : a < m.req.length, m.req[a].stage = 1 ∧ ∃ t, m.waits = (m.req[a].conn, m.req[a].id) :: t := by
  obtain ⟨hl, h1, -, t, ht⟩ := firstW_get m.req 0 a h
  simp only [Nat.sub_zero] at hl h1 ht
  refine ⟨hl, h1, t.map fun r => (r.conn, r.id), ?_⟩
  unfold PM.waits
  rw [ht]; rfl

theorem PM.fw_none {m : PM} (h : m.fw = none) : m.waits = [] := by
  unfold PM.waits
  rw [firstW_none m.req 0 h]; rfl

/-- A request that waited is leased: of those that wait it is struck. -/
theorem set_waits : ∀ (l : List Req) (a : Nat) (ha : a < l.length) (x : Req), ((l.map Req.kv).map KV.key).Nodup → (x.stage == 1) = false →
    ((l.set a x).filter fun r => r.stage == 1) = (withoutL l l[a].conn l[a].id).filter fun r => r.stage == 1
  | [], a, ha, _, _, _ => by simp at ha
  | y :: l, a, ha, x, hn, hx => by
    have hn' := hn
    rw [List.map_cons, List.map_cons, List.nodup_cons] at hn'
    cases a with
    | zero =>
      simp only [List.set_cons_zero, List.getElem_cons_zero]
      rw [List.filter_cons_of_neg (by simp [hx])]
      have hk : isKey y.conn y.id y = true := by simp [isKey]
      have hrest : withoutL l y.conn y.id = l := by
        apply List.filter_eq_self.2
        intro r hr
        cases hq : isKey y.conn y.id r
        · rfl
        · simp only [isKey, Bool.and_eq_true, beq_iff_eq] at hq
          exfalso
          apply hn'.1
          rw [List.map_map]
          exact List.mem_map.2 ⟨r, hr, by show (r.conn, r.id) = (y.conn, y.id); rw [hq.1, hq.2]⟩
      have e : withoutL (y :: l) y.conn y.id = withoutL l y.conn y.id := by
        unfold withoutL
        rw [List.filter_cons_of_neg (by simp [hk])]
      rw [e, hrest]
    | succ a =>
      have hal : a < l.length := by simpa using ha
      have ih := set_waits l a hal x hn'.2 hx
      simp only [List.set_cons_succ, List.getElem_cons_succ]
      have hk : isKey l[a].conn l[a].id y = false := by
        cases hq : isKey l[a].conn l[a].id y
        · rfl
        · simp only [isKey, Bool.and_eq_true, beq_iff_eq] at hq
          exfalso
          apply hn'.1
          rw [List.map_map]
          exact List.mem_map.2 ⟨l[a], List.getElem_mem hal, by show (l[a].conn, l[a].id) = (y.conn, y.id); rw [hq.1, hq.2]⟩
      have e : withoutL (y :: l) l[a].conn l[a].id = y :: withoutL l l[a].conn l[a].id := by
        unfold withoutL
        rw [List.filter_cons_of_pos (by simp [hk])]
      rw [e, List.filter_cons, List.filter_cons, ih]

section
variable {m : PM} {M : RM}

/-- A slot begins anew. -/
theorem Sim.anew (h : Sim m M) {s : Nat} (hs : s < 6) (x : Int) (hx : x ≠ 3) : Sim { m with slot := upd m.slot s (newSlot x) } { M with slot := upd M.slot s ⟨x, 0, 0, false, 0⟩ } := by
  have hsl : ∀ t, ({ M with slot := upd M.slot s ⟨x, 0, 0, false, 0⟩ } : RM).slot t = if t = s then ⟨x, 0, 0, false, 0⟩ else M.slot t := fun t => rfl
  have hpl : ∀ t, ({ m with slot := upd m.slot s (newSlot x) } : PM).slot t = if t = s then newSlot x else m.slot t := fun t => rfl
  have hlv : ({ M with slot := upd M.slot s ⟨x, 0, 0, false, 0⟩ } : RM).live s = false := by
    unfold RM.live
    rw [hsl, if_pos rfl]
    simp [hx]
  have hsm : ∀ t, t ≠ s → _ := fun t ht => RM.same_st (M := M) (M' := { M with slot := upd M.slot s ⟨x, 0, 0, false, 0⟩ }) (s := t) (by rw [hsl, if_neg ht]) (fun _ => rfl)
  refine ⟨h.set, h.time, h.op, h.sent, ?_, ?_, ?_, ?_, ?_, ?_, ?_, h.view, h.nodup, h.waits, ?_, h.qnd, h.qis, h.range, ?_, ?_, ?_⟩
  · intro t ht
    rw [hsl, hpl]
    split
    · rfl
    · exact h.st t ht
  · intro t ht
    rw [hsl, hpl]
    split
    · rfl
    · exact h.old t ht
  · intro t ht
    rw [hsl, hpl]
    split
    · rfl
    · exact h.served t ht
  · intro t ht
    rw [hsl, hpl]
    split
    · rfl
    · exact h.since t ht
  · intro t ht
    rw [hpl]
    by_cases e : t = s
    · subst e
      rw [if_pos rfl]
      unfold RM.connOf
      rw [hlv]; rfl
    · rw [if_neg e, (hsm t e).2.1]; exact h.conn t ht
  · intro t ht
    rw [hpl]
    by_cases e : t = s
    · subst e
      rw [if_pos rfl]
      unfold RM.idOf
      rw [hlv]; rfl
    · rw [if_neg e, (hsm t e).2.2]; exact h.id t ht
  · intro t ht e3
    by_cases e : t = s
    · rw [hsl, if_pos e] at e3; exact absurd e3 hx
    · rw [hsl, if_neg e] at e3 ⊢
      rw [hpl, if_neg e]
      exact h.job t ht e3
  · intro j t hj ht a b e
    by_cases ej : j = s
    · subst ej; rw [hlv] at a; cases a
    by_cases et : t = s
    · subst et; rw [hlv] at b; cases b
    rw [(hsm j ej).1] at a
    rw [(hsm t et).1] at b
    rw [hsl, hsl, if_neg ej, if_neg et] at e
    exact h.one j t hj ht a b e
  · refine ⟨h.wf.q, ?_, h.wf.ch⟩
    intro t ht e3
    by_cases e : t = s
    · rw [hsl, if_pos e] at e3; exact absurd e3 hx
    · rw [hsl, if_neg e] at e3 ⊢
      exact h.wf.s t ht e3
  · intro t ht e3
    by_cases e : t = s
    · rw [hsl, if_pos e] at e3; exact absurd e3 hx
    · rw [hsl, if_neg e] at e3 ⊢
      exact h.busy t ht e3
  · intro t ht e3
    by_cases e : t = s
    · rw [hsl, if_pos e]
    · rw [hsl, if_neg e] at e3 ⊢
      exact h.idle0 t ht e3

/-- The first that waits is leased to an Idle slot. -/
theorem Sim.lease (h : Sim m M) {a k j : Nat} {l : List Nat} (hk : k < 6) (hfw : m.fw = some a) (hb : M.back = j :: l) (ha : a < m.req.length) : Sim (m.lease a k m.req[a]) (M.leaseAt j k) := by
  obtain ⟨_, _, t, hw⟩ := PM.fw_some hfw
  obtain ⟨hjq, hj1⟩ := RM.back_mem M hb
  have hon : (M.key j).is ≠ 3 := by omega
  have hjl := RM.on_lt hon
  have hkv : m.req[a].kv = (M.key j).kv := by
    refine key_inj h.nodup (h.view.mem_iff.1 (List.mem_map.2 ⟨_, List.getElem_mem ha, rfl⟩)) (by rw [M.key_eq hjl]; exact mem_view hjl (RKey.on_iff.2 (by rw [← M.key_eq hjl]; exact hon))) ?_
    have hw2 : M.waits = ((M.key j).conn, (M.key j).id) :: l.map fun i => ((M.key i).conn, (M.key i).id) := by unfold RM.waits; rw [hb]; rfl
    rw [h.waits, hw2] at hw
    simp only [List.cons.injEq] at hw
    show (m.req[a].conn, m.req[a].id) = ((M.key j).conn, (M.key j).id)
    exact hw.1.symm
  have e1 : m.req[a].conn = (M.key j).conn := congrArg KV.conn hkv
  have e2 : m.req[a].id = (M.key j).id := congrArg KV.id hkv
  have e4 : m.req[a].body = (M.key j).body := by
    have := congrArg KV.body hkv
    simpa [Req.kv, RKey.kv, hj1] using this
  have hkk : ∀ i, (M.leaseAt j k).key i = if i = j then { M.key j with is := 2 } else M.key i := fun i => RM.set_key M hjl _ i
  have hne : ∀ s, s < 6 → (M.slot s).st = 3 → (M.slot s).key ≠ j := fun s hs h3 => h.busy_ne hs h3 (by omega) hon
  have hsl : ∀ s, (M.leaseAt j k).slot s = if s = k then ⟨3, wrap64 ((M.slot k).served + 1), M.time, (M.slot k).old, j⟩ else M.slot s := fun s => rfl
  have hpl : ∀ s, (m.lease a k m.req[a]).slot s = if s = k then ⟨3, (m.slot k).old, wrap64 ((m.slot k).served + 1), m.time, m.req[a].conn, m.req[a].id, m.req[a].body⟩ else m.slot s := fun s => rfl
  have hsm : ∀ s, s < 6 → s ≠ k → _ := fun s hs hsk => RM.same_st (M := M) (M' := M.leaseAt j k) (s := s) (by rw [hsl, if_neg hsk]) (fun h3 => by rw [hkk, if_neg (hne s hs h3)])
  have hlk : (M.leaseAt j k).live k = true := by
    rw [RM.live_iff, hsl, if_pos rfl, hkk, if_pos rfl]
    exact ⟨rfl, rfl⟩
  have hkx : ({ M.key j with is := 2 } : RKey).kv = ({ m.req[a] with stage := 2, body := ⟨#[]⟩ } : Req).kv := by
    simp [Req.kv, RKey.kv, e1, e2]
  have hvm : (M.leaseAt j k).view = M.view.map (fun v => if v.isK (M.key j).conn (M.key j).id then ({ m.req[a] with stage := 2, body := ⟨#[]⟩ } : Req).kv else v) := by
    have := viewL_set M.keys j hjl { M.key j with is := 2 } (by rw [RKey.on_iff, ← M.key_eq hjl]; exact hon) (by rw [M.key_eq hjl]) (by rw [M.key_eq hjl]) h.nodup
    unfold RM.view RM.leaseAt
    rw [this, if_pos (by simp [RKey.on]), hkx]
  have hvp : (m.lease a k m.req[a]).view = m.view.map (fun v => if v.isK (M.key j).conn (M.key j).id then ({ m.req[a] with stage := 2, body := ⟨#[]⟩ } : Req).kv else v) := by
    have := req_set m.req a ha { m.req[a] with stage := 2, body := ⟨#[]⟩ } rfl rfl (perm_nodup h.view h.nodup)
    unfold PM.view PM.lease
    rw [this]
    simp only [e1, e2]
  have hwm : (M.leaseAt j k).waits = M.waits.filter (fun p => !(p.1 == (M.key j).conn && p.2 == (M.key j).id)) := by
    unfold RM.waits RM.back
    have x1 : ((M.leaseAt j k).queue.filter fun i => ((M.leaseAt j k).key i).is == 1) = M.queue.filter fun i => (M.key i).is == 1 && !(i == j) := by
      apply List.filter_congr
      intro i _
      rw [hkk]
      by_cases e : i = j
      · simp [e]
      · simp [e]
    rw [x1, List.filter_map, filter_over h.nodup hon]
    apply List.map_congr_left
    intro i hi
    have hij : i ≠ j := by
      rintro rfl
      have := (List.mem_filter.1 hi).2
      simp at this
    rw [hkk, if_neg hij]
  refine ⟨h.set, h.time, h.op, h.sent, ?_, ?_, ?_, ?_, ?_, ?_, ?_, ?_, ?_, ?_, ?_, h.qnd, ?_, ?_, ?_, ?_, ?_⟩
  · intro s hs
    rw [hsl, hpl]
    split
    · rfl
    · exact h.st s hs
  · intro s hs
    rw [hsl, hpl]
    split
    · exact h.old k hk
    · exact h.old s hs
  · intro s hs
    rw [hsl, hpl]
    split
    · show wrap64 _ = wrap64 _
      rw [h.served k hk]
    · exact h.served s hs
  · intro s hs
    rw [hsl, hpl]
    split
    · exact h.time
    · exact h.since s hs
  · intro s hs
    rw [hpl]
    by_cases e : s = k
    · subst e
      rw [if_pos rfl]
      unfold RM.connOf
      rw [hlk, hsl, if_pos rfl, hkk, if_pos rfl]
      exact e1
    · rw [if_neg e, (hsm s hs e).2.1]; exact h.conn s hs
  · intro s hs
    rw [hpl]
    by_cases e : s = k
    · subst e
      rw [if_pos rfl]
      unfold RM.idOf
      rw [hlk, hsl, if_pos rfl, hkk, if_pos rfl]
      exact e2
    · rw [if_neg e, (hsm s hs e).2.2]; exact h.id s hs
  · intro s hs h3
    rw [hpl]
    by_cases e : s = k
    · subst e
      rw [if_pos rfl, hsl, if_pos rfl, hkk, if_pos rfl]
      exact e4
    · rw [hsl, if_neg e] at h3 ⊢
      rw [if_neg e, hkk, if_neg (hne s hs h3)]
      exact h.job s hs h3
  · rw [hvm, hvp]; exact h.view.map _
  · rw [hvm, List.map_map]
    have : (KV.key ∘ fun v => if v.isK (M.key j).conn (M.key j).id then ({ m.req[a] with stage := 2, body := ⟨#[]⟩ } : Req).kv else v) = KV.key := by
      funext v
      show KV.key (if _ then _ else _) = _
      split
      · rename_i hv
        rw [KV.isK_iff] at hv
        rw [hv]
        show (_, _) = (_, _)
        rw [← e1, ← e2]; rfl
      · rfl
    rw [this]; exact h.nodup
  · rw [hwm, ← h.waits]
    unfold PM.waits PM.lease
    simp only []
    rw [set_waits m.req a ha _ (perm_nodup h.view h.nodup) rfl, PM.waits_filter, e1, e2]
  · intro s t' hs ht x y e
    by_cases es : s = k
    · by_cases et : t' = k
      · rw [es, et]
      · exfalso
        rw [(hsm t' ht et).1] at y
        rw [hsl, hsl, if_pos es, if_neg et] at e
        exact hne t' ht (RM.live_iff.1 y).1 e.symm
    · by_cases et : t' = k
      · exfalso
        rw [(hsm s hs es).1] at x
        rw [hsl, hsl, if_neg es, if_pos et] at e
        exact hne s hs (RM.live_iff.1 x).1 e
      · rw [(hsm s hs es).1] at x
        rw [(hsm t' ht et).1] at y
        rw [hsl, hsl, if_neg es, if_neg et] at e
        exact h.one s t' hs ht x y e
  · intro i hi
    rw [hkk]
    split
    · simp
    · exact h.qis i hi
  · intro i hi
    simp only [RM.leaseAt, List.length_set] at hi
    obtain ⟨c', hc', e⟩ := h.range i hi
    refine ⟨c', hc', ?_⟩
    simp only [RM.leaseAt, List.getElem_set]
    split
    · rename_i e'; subst e'; rw [M.key_eq hjl]; exact e
    · exact e
  · exact RM.wf_lease h.wf j k hjl
  · intro s hs h3
    by_cases e : s = k
    · left
      rw [hsl, if_pos e, hkk, if_pos rfl]
    · rw [hsl, if_neg e] at h3 ⊢
      rw [hkk, if_neg (hne s hs h3)]
      exact h.busy s hs h3
  · intro s hs h3
    by_cases e : s = k
    · rw [hsl, if_pos e] at h3; exact absurd rfl h3
    · rw [hsl, if_neg e] at h3 ⊢
      exact h.idle0 s hs h3

end
end Go.Proofs.YtlafkpaljibonaaGreat

namespace Go.Proofs.YtlafkpaljibonaaGreat
open Go.RowKit

theorem RM.fst_eq (M : RM) (x : Int) : ∀ (n i k : Nat), i ≤ k → k < i + n → (∀ j, i ≤ j → j < k → (M.slot j).st ≠ x) → (M.slot k).st = x → M.fst x i n = some k
  | 0, i, k, h1, h2, _, _ => by omega
  | n + 1, i, k, h1, h2, h3, h4 => by
    unfold RM.fst
    by_cases e : i = k
    · subst e
      simp [h4]
    · have : ((M.slot i).st == x) = false := by simpa using h3 i (Nat.le_refl _) (by omega)
      rw [this]
      exact RM.fst_eq M x n (i + 1) k (by omega) (by omega) (fun j a b => h3 j (by omega) b) h4

theorem RM.fst_none (M : RM) (x : Int) : ∀ (n i : Nat), (∀ j, i ≤ j → j < i + n → (M.slot j).st ≠ x) → M.fst x i n = none
  | 0, _, _ => rfl
  | n + 1, i, h => by
    unfold RM.fst
    have : ((M.slot i).st == x) = false := by simpa using h i (Nat.le_refl _) (by omega)
    rw [this]
    exact RM.fst_none M x n (i + 1) (fun j a b => h j (by omega) (by omega))

theorem RM.cnt_pos (M : RM) (x : Int) (k : Nat) : ∀ n, k < n → (M.slot k).st = x → 1 ≤ M.cntTo x n
  | 0, h, _ => by omega
  | n + 1, h, hs => by
    have hb := M.cntTo_bd x n
    unfold RM.cntTo
    by_cases e : k = n
    · subst e
      simp [hs]
      omega
    · have := RM.cnt_pos M x k n (by omega) hs
      cases ((M.slot n).st == x) <;> simp <;> omega

/-- The document's slots started in one sweep, as the program does it. -/
def RM.sweep (M : RM) (u : Int) : Nat → RM × Int
  | 0 => (M, u)
  | k + 1 => cond (decide ((M.sweep u k).2 < M.set.ch) && ((M.sweep u k).1.slot k).st == 0) ({ (M.sweep u k).1 with slot := upd (M.sweep u k).1.slot k startSlot }, (M.sweep u k).2 + 1) (M.sweep u k)

def RM.lsweep (M : RM) : Nat → RM
  | 0 => M
  | k + 1 =>
    match (M.lsweep k).back with
    | j :: _ => cond (((M.lsweep k).slot k).st == 2) ((M.lsweep k).leaseAt j k) (M.lsweep k)
    | [] => M.lsweep k

section
variable {m : PM} {M : RM}

theorem Sim.sweep (h : Sim m M) (u : Int) : ∀ k, k ≤ 6 → Sim (startTo m u k).1 (M.sweep u k).1 ∧ (startTo m u k).2 = (M.sweep u k).2
  | 0, _ => ⟨h, rfl⟩
  | k + 1, hk => by
    obtain ⟨ih, e⟩ := Sim.sweep h u k (by omega)
    have h1 : startTo m u (k + 1) = cond (decide ((startTo m u k).2 < m.set.ch) && ((startTo m u k).1.slot k).st == 0) ({ (startTo m u k).1 with slot := upd (startTo m u k).1.slot k (newSlot 1) }, (startTo m u k).2 + 1) (startTo m u k) := rfl
    have h2 : M.sweep u (k + 1) = cond (decide ((M.sweep u k).2 < M.set.ch) && ((M.sweep u k).1.slot k).st == 0) ({ (M.sweep u k).1 with slot := upd (M.sweep u k).1.slot k startSlot }, (M.sweep u k).2 + 1) (M.sweep u k) := rfl
    rw [h1, h2, ih.st k (by omega), e, h.set]
    cases (decide ((M.sweep u k).2 < M.set.ch) && ((M.sweep u k).1.slot k).st == 0)
    · exact ⟨ih, e⟩
    · refine ⟨ih.anew (s := k) (by omega) 1 (by omega), ?_⟩
      show (M.sweep u k).2 + 1 = _
      rfl

theorem Sim.used (h : Sim m M) : ∀ k, k ≤ 6 → m.usedTo k = k - M.cntTo 0 k
  | 0, _ => rfl
  | k + 1, hk => by
    have ih := Sim.used h k (by omega)
    unfold PM.usedTo RM.cntTo
    rw [ih, h.st k (by omega)]
    cases ((M.slot k).st == 0) <;> simp <;> omega

theorem RM.startN_sweep (M : RM) (hd : M.set.dyn = false) : ∀ k, k ≤ 6 → ∃ f : Nat, M.startN 6 = (M.sweep (6 - M.cnt 0) k).1.startN f ∧ (M.sweep (6 - M.cnt 0) k).1.cnt 0 ≤ f ∧ (M.sweep (6 - M.cnt 0) k).2 = 6 - (M.sweep (6 - M.cnt 0) k).1.cnt 0 ∧ (M.sweep (6 - M.cnt 0) k).1.set = M.set ∧ (M.set.ch ≤ (M.sweep (6 - M.cnt 0) k).2 ∨ ∀ j, j < k → ((M.sweep (6 - M.cnt 0) k).1.slot j).st ≠ 0)
  | 0, _ => ⟨6, rfl, (M.cntTo_bd 0 6).2, rfl, rfl, .inr (fun j hj => by omega)⟩
  | k + 1, hk => by
    obtain ⟨f, h1, h2, h3, h4, h5⟩ := RM.startN_sweep M hd k (by omega)
    have h2' : M.sweep (6 - M.cnt 0) (k + 1) = cond (decide ((M.sweep (6 - M.cnt 0) k).2 < M.set.ch) && ((M.sweep (6 - M.cnt 0) k).1.slot k).st == 0) ({ (M.sweep (6 - M.cnt 0) k).1 with slot := upd (M.sweep (6 - M.cnt 0) k).1.slot k startSlot }, (M.sweep (6 - M.cnt 0) k).2 + 1) (M.sweep (6 - M.cnt 0) k) := rfl
    rw [h2']
    clear h2'
    generalize M.sweep (6 - M.cnt 0) k = R at *
    obtain ⟨R, U⟩ := R
    simp only at *
    by_cases hU : U < M.set.ch
    · have hno : ∀ j, j < k → (R.slot j).st ≠ 0 := by
        rcases h5 with h5 | h5
        · omega
        · exact h5
      rw [decide_eq_true hU]
      by_cases hs : (R.slot k).st = 0
      · have hs' : ((R.slot k).st == 0) = true := by simpa using hs
        rw [hs']
        simp only [Bool.and_self, cond_true]
        have hf : R.first 0 = some k := RM.fst_eq R 0 6 0 k (by omega) (by omega) (fun j _ b => hno j b) hs
        have hcp := RM.cnt_pos R 0 k 6 (by omega) hs
        have hcp' : 1 ≤ R.cnt 0 := hcp
        obtain ⟨k', -, e1, e2, e3⟩ := RM.cnt_starts R (by omega)
        rw [hf] at e1
        simp only [Option.some.injEq] at e1
        subst e1
        obtain ⟨f', rfl⟩ : ∃ f', f = f' + 1 := ⟨f - 1, by omega⟩
        refine ⟨f', ?_, ?_, ?_, h4, ?_⟩
        · rw [h1]
          show cond (!R.set.dyn && decide (6 - R.cnt 0 < R.set.ch)) (R.starts.startN f') R = _
          rw [show (!R.set.dyn && decide (6 - R.cnt 0 < R.set.ch)) = true from by rw [h4, hd, decide_eq_true (by omega)]; rfl, e2]
          rfl
        · rw [← e2, e3]; omega
        · rw [← e2, e3]; omega
        · right
          intro j hj
          by_cases e : j = k
          · subst e; simp [startSlot]
          · simp only [upd_other _ _ e]; exact hno j (by omega)
      · have hs' : ((R.slot k).st == 0) = false := by simpa using hs
        rw [hs']
        simp only [Bool.and_false, cond_false]
        refine ⟨f, h1, h2, h3, h4, .inr ?_⟩
        intro j hj
        by_cases e : j = k
        · rw [e]; exact hs
        · exact hno j (by omega)
    · rw [decide_eq_false hU]
      simp only [Bool.false_and, cond_false]
      exact ⟨f, h1, h2, h3, h4, .inl (by omega)⟩

theorem RM.startN_end (M : RM) (hd : M.set.dyn = false) (hc : M.set.ch ≤ 6) : M.startN 6 = (M.sweep (6 - M.cnt 0) 6).1 := by
  obtain ⟨f, h1, h2, h3, h4, h5⟩ := RM.startN_sweep M hd 6 (Nat.le_refl _)
  rw [h1]
  generalize M.sweep (6 - M.cnt 0) 6 = R at *
  obtain ⟨R, U⟩ := R
  simp only at *
  cases f with
  | zero => rfl
  | succ f =>
    show cond (!R.set.dyn && decide (6 - R.cnt 0 < R.set.ch)) (R.starts.startN f) R = R
    have : ¬ (6 - R.cnt 0 < R.set.ch) := by
      rw [h4]
      rcases h5 with h5 | h5
      · omega
      · have : R.cnt 0 = 0 := RM.cnt_zero R 0 (RM.fst_none R 0 6 0 (fun j _ b => h5 j (by omega)))
        omega
    rw [decide_eq_false this, Bool.and_false]
    rfl

theorem RM.startN_dyn (M : RM) (hd : M.set.dyn = true) : M.startN 6 = M := by
  show cond (!M.set.dyn && _) _ _ = _
  rw [hd]; rfl

theorem Sim.lsweep (h : Sim m M) : ∀ k, k ≤ 6 → Sim (m.leaseTo k) (M.lsweep k)
  | 0, _ => h
  | k + 1, hk => by
    have ih := Sim.lsweep h k (by omega)
    have h1 : m.leaseTo (k + 1) = (m.leaseTo k).leaseAt k := rfl
    rw [h1]
    unfold RM.lsweep PM.leaseAt
    generalize m.leaseTo k = m' at *
    generalize M.lsweep k = M' at *
    cases hfw : m'.fw with
    | none =>
      have hw := PM.fw_none hfw
      rw [ih.waits] at hw
      have hb : M'.back = [] := by
        unfold RM.waits at hw
        exact List.map_eq_nil_iff.1 hw
      rw [hb]
      exact ih
    | some a =>
      obtain ⟨ha, _, t, hw⟩ := PM.fw_some hfw
      cases hb : M'.back with
      | nil =>
        rw [ih.waits] at hw
        unfold RM.waits at hw
        rw [hb] at hw
        simp at hw
      | cons j l =>
        simp only []
        rw [ih.st k (by omega)]
        cases ((M'.slot k).st == 2)
        · exact ih
        · have hgd : m'.req.getD a noReq = m'.req[a] := by simp [List.getD, List.getElem?_eq_getElem ha]
          rw [hgd]
          exact ih.lease (by omega) hfw hb ha

theorem RM.leaseN_lsweep (M : RM) : ∀ k, k ≤ 6 → ∃ f : Nat, M.leaseN 6 = (M.lsweep k).leaseN f ∧ (M.lsweep k).cnt 2 ≤ f ∧ ((M.lsweep k).back = [] ∨ ∀ j, j < k → ((M.lsweep k).slot j).st ≠ 2)
  | 0, _ => ⟨6, rfl, (M.cntTo_bd 2 6).2, .inr (fun j hj => by omega)⟩
  | k + 1, hk => by
    obtain ⟨f, h1, h2, h3⟩ := RM.leaseN_lsweep M k (by omega)
    unfold RM.lsweep
    generalize M.lsweep k = R at *
    cases hb : R.back with
    | nil => exact ⟨f, h1, h2, .inl hb⟩
    | cons i l =>
      simp only []
      have hno : ∀ j, j < k → (R.slot j).st ≠ 2 := by
        rcases h3 with h3 | h3
        · rw [h3] at hb; cases hb
        · exact h3
      by_cases hs : (R.slot k).st = 2
      · have hs' : ((R.slot k).st == 2) = true := by simpa using hs
        rw [hs']
        simp only [cond_true]
        have hf : R.first 2 = some k := RM.fst_eq R 2 6 0 k (by omega) (by omega) (fun j _ b => hno j b) hs
        obtain ⟨-, hc1, hc2⟩ := RM.cnt_lease R i k hf
        obtain ⟨f', rfl⟩ : ∃ f', f = f' + 1 := ⟨f - 1, by omega⟩
        refine ⟨f', ?_, by omega, .inr ?_⟩
        · rw [h1]
          simp only [RM.leaseN, hb, hf]
        · intro j hj
          by_cases e : j = k
          · subst e; simp [RM.leaseAt]
          · simp only [RM.leaseAt, upd_other _ _ e]; exact hno j (by omega)
      · have hs' : ((R.slot k).st == 2) = false := by simpa using hs
        rw [hs']
        simp only [cond_false]
        refine ⟨f, h1, h2, .inr ?_⟩
        intro j hj
        by_cases e : j = k
        · rw [e]; exact hs
        · exact hno j (by omega)

theorem RM.leaseN_end (M : RM) : M.leaseN 6 = M.lsweep 6 := by
  obtain ⟨f, h1, h2, h3⟩ := RM.leaseN_lsweep M 6 (Nat.le_refl _)
  rw [h1]
  generalize M.lsweep 6 = R at *
  cases f with
  | zero => rfl
  | succ f =>
    rcases h3 with h3 | h3
    · simp only [RM.leaseN, h3]
    · have hf : R.first 2 = none := RM.fst_none R 2 6 0 (fun j _ b => h3 j (by omega))
      cases hb : R.back with
      | nil => simp only [RM.leaseN, hb]
      | cons i l => simp only [RM.leaseN, hb, hf]

/-- Both settle alike. -/
theorem Sim.settle (h : Sim m M) : Sim m.settle M.settle := by
  unfold PM.settle RM.settle RM.startAll PM.leaseWaiting
  rw [RM.leaseN_end]
  cases hd : m.set.dyn
  · have hd' : M.set.dyn = false := by rw [← h.set]; exact hd
    simp only [cond_false]
    rw [RM.startN_end M hd' h.wf.ch.1]
    have hu : m.usedTo 6 = 6 - M.cnt 0 := h.used 6 (Nat.le_refl _)
    have h1 := (h.sweep (m.usedTo 6) 6 (Nat.le_refl _)).1
    unfold PM.startMissing
    rw [hu] at h1 ⊢
    exact h1.lsweep 6 (Nat.le_refl _)
  · have hd' : M.set.dyn = true := by rw [← h.set]; exact hd
    simp only [cond_true]
    rw [RM.startN_dyn M hd']
    exact h.lsweep 6 (Nat.le_refl _)

end
end Go.Proofs.YtlafkpaljibonaaGreat

namespace Go.Proofs.YtlafkpaljibonaaGreat
open Go.RowKit

theorem byt_app (t u : ByteArray) (j : Nat) (h : j < t.size) : byt (t ++ u) j = byt t j := by
  rw [← byt_get t j h, ← byt_get (t ++ u) j (by rw [ByteArray.size_append]; omega)]
  rw [ByteArray.getElem_append_left h]

theorem heads_app (t u : ByteArray) (h : 8 ≤ (t.size : Int)) : hKind (t ++ u) = hKind t ∧ hId (t ++ u) = hId t ∧ hLen (t ++ u) = hLen t ∧ hPad (t ++ u) = hPad t ∧ badT (t ++ u) = badT t := by
  have b : ∀ j, j < 8 → byt (t ++ u) j = byt t j := fun j hj => byt_app t u j (by omega)
  refine ⟨b 1 (by omega), ?_, ?_, b 6 (by omega), ?_⟩
  · unfold hId; rw [b 2 (by omega), b 3 (by omega)]
  · unfold hLen; rw [b 4 (by omega), b 5 (by omega)]
  · rw [badT_eq, badT_eq, b 0 (by omega), b 1 (by omega), b 2 (by omega), b 3 (by omega), b 4 (by omega), b 5 (by omega), b 6 (by omega), b 7 (by omega)]

theorem stop_app (c : Bool) (t u : ByteArray) (h : 8 ≤ (t.size : Int)) : stopT c (t ++ u) = stopT c t := by
  obtain ⟨h1, -, h3, -, h5⟩ := heads_app t u h
  unfold stopT wrongT
  rw [h1, h3, h5]

theorem two_app {c : Bool} {t u : ByteArray} (h : rcode c t = 2) : rcode c (t ++ u) = 2 ∧ recT (t ++ u) = recT t ∧ sizeT (t ++ u) = sizeT t := by
  obtain ⟨-, -, hs, hl, h8⟩ := rcode_two h
  obtain ⟨h1, h2, h3, h4, -⟩ := heads_app t u h8
  have hd := hd_bd t
  refine ⟨?_, ?_, ?_⟩
  · unfold rcode
    rw [stop_app c t u h8, hs, h3, h4, ByteArray.size_append]
    rw [if_neg (by omega), if_neg (by simp), if_neg (by omega)]
  · unfold recT
    rw [h1, h2, h3]
    congr 2
    apply ByteArray.ext
    have : (8 + hLen t).toNat ≤ t.data.size := by
      have : t.data.size = t.size := rfl
      omega
    simp only [ByteArray.data_extract, ByteArray.data_append]
    rw [Array.extract_append, Nat.sub_eq_zero_of_le this]
    simp
  · unfold sizeT
    rw [h3, h4]

theorem extract_far (d : Array UInt8) (i j : Nat) (h : d.size ≤ j) : d.extract i j = d.extract i d.size := by
  apply Array.ext
  · simp only [Array.size_extract]; omega
  · intro k h1 h2; simp only [Array.getElem_extract]

theorem left_app (a s : ByteArray) {i : Nat} (h : i ≤ a.size) : left (a ++ s) i = left a i ++ s := by
  unfold left
  apply ByteArray.ext
  simp only [ByteArray.data_extract, ByteArray.data_append, ByteArray.size_append]
  rw [Array.extract_append]
  have e : a.data.size = a.size := rfl
  have e2 : s.data.size = s.size := rfl
  rw [e, show i - a.size = 0 from by omega, show a.size + s.size - a.size = s.size from by omega, ← e2, Array.extract_size]
  congr 1
  rw [e2, ← e]
  exact extract_far _ _ _ (by omega)

theorem left_left (s : ByteArray) (n t : Nat) : left (left s n) t = left s (n + t) := by
  unfold left
  apply ByteArray.ext
  simp only [ByteArray.data_extract, ByteArray.size_extract, Array.extract_extract]
  congr 1
  omega

theorem rdec_fuel (c : Bool) (s : ByteArray) : ∀ (f f' i : Nat), s.size - i < f → s.size - i < f' → rdec c f s i = rdec c f' s i
  | 0, _, _, h, _ => by omega
  | f + 1, f', i, h, h' => by
    obtain ⟨g, rfl⟩ : ∃ g, f' = g + 1 := ⟨f' - 1, by omega⟩
    rcases rcode_cases c (left s i) with e | e | e
    · rw [rdec_zero e, rdec_zero e]
    · rw [rdec_one e, rdec_one e]
    · obtain ⟨h1, h2, -⟩ := rcode_two e
      rw [left_size] at h2
      have := rdec_fuel c s f g (i + sizeT (left s i)) (by omega) (by omega)
      rw [rdec_two e, rdec_two e, this]

theorem rdec_app (c : Bool) (a s : ByteArray) : ∀ (f i : Nat), i ≤ a.size → a.size - i < f → (rdec c f a i).2.2 = false → ∀ F, (a ++ s).size - i < F →
    rdec c F (a ++ s) i = ((rdec c f a i).1 ++ (rdec c F (a ++ s) (rdec c f a i).2.1).1, (rdec c F (a ++ s) (rdec c f a i).2.1).2) ∧ i ≤ (rdec c f a i).2.1 ∧ (rdec c f a i).2.1 ≤ a.size
  | 0, _, _, h, _, _, _ => by omega
  | f + 1, i, hi, h, hb, F, hF => by
    rcases rcode_cases c (left a i) with e | e | e
    · rw [rdec_zero e]
      exact ⟨by simp, Nat.le_refl _, hi⟩
    · rw [rdec_one e] at hb; simp at hb
    · obtain ⟨h1, h2, -⟩ := rcode_two e
      rw [left_size] at h2
      obtain ⟨G, rfl⟩ : ∃ G, F = G + 1 := ⟨F - 1, by omega⟩
      have hl := left_app a s hi
      obtain ⟨t1, t2, t3⟩ := two_app (u := s) e
      rw [← hl] at t1 t2 t3
      rw [rdec_two e] at hb
      rw [ByteArray.size_append] at hF
      obtain ⟨ih1, ih2, ih3⟩ := rdec_app c a s f (i + sizeT (left a i)) (by omega) (by omega) hb G (by rw [ByteArray.size_append]; omega)
      rw [rdec_two e, rdec_two t1, t2, t3, ih1]
      refine ⟨?_, by simp only []; omega, by simp only []; exact ih3⟩
      simp only [List.cons_append]
      rw [rdec_fuel c (a ++ s) G (G + 1) _ (by rw [ByteArray.size_append]; omega) (by rw [ByteArray.size_append]; omega)]

theorem rdec_shift (c : Bool) (x : ByteArray) (n : Nat) : ∀ (f t : Nat), rdec c f x (n + t) = ((rdec c f (left x n) t).1, n + (rdec c f (left x n) t).2.1, (rdec c f (left x n) t).2.2)
  | 0, _ => rfl
  | f + 1, t => by
    rcases rcode_cases c (left x (n + t)) with e | e | e
    · have e' : rcode c (left (left x n) t) = 0 := by rw [left_left]; exact e
      rw [rdec_zero e, rdec_zero e']
    · have e' : rcode c (left (left x n) t) = 1 := by rw [left_left]; exact e
      rw [rdec_one e, rdec_one e']
    · have e' : rcode c (left (left x n) t) = 2 := by rw [left_left]; exact e
      rw [rdec_two e, rdec_two e', left_left, Nat.add_assoc, rdec_shift c x n f (t + sizeT (left x (n + t)))]

theorem rdec_shift0 (c : Bool) (x : ByteArray) (n f : Nat) : rdec c f x n = ((rdec c f (left x n) 0).1, n + (rdec c f (left x n) 0).2.1, (rdec c f (left x n) 0).2.2) := rdec_shift c x n f 0

theorem rd_parts (c : Bool) (s : ByteArray) : rdL c s = (rdec c (s.size + 1) s 0).1 ∧ rdN c s = (rdec c (s.size + 1) s 0).2.1 ∧ rdB c s = (rdec c (s.size + 1) s 0).2.2 := by
  unfold rdL rdN rdB
  exact ⟨rfl, rfl, rfl⟩

theorem read_raw (a s : ByteArray) (P : List Rec × Nat × Bool) (hP : rdec true (a.size + 1) a 0 = P) (hb : P.2.2 = false) (X : List Rec × Nat × Bool) (hX : rdec true ((left (a ++ s) P.2.1).size + 1) (left (a ++ s) P.2.1) 0 = X) :
    rdec true ((a ++ s).size + 1) (a ++ s) 0 = (P.1 ++ X.1, P.2.1 + X.2.1, X.2.2) ∧ P.2.1 ≤ a.size := by
  have h := rdec_app true a s (a.size + 1) 0 (Nat.zero_le _) (by omega) (by rw [hP]; exact hb) ((a ++ s).size + 1) (by omega)
  rw [hP] at h
  obtain ⟨h1, -, h3⟩ := h
  have hs := rdec_shift0 true (a ++ s) P.2.1 ((a ++ s).size + 1)
  have hfu := rdec_fuel true (left (a ++ s) P.2.1) ((a ++ s).size + 1) ((left (a ++ s) P.2.1).size + 1) 0 (by rw [left_size]; omega) (by omega)
  rw [hfu, hX] at hs
  rw [hs] at h1
  exact ⟨h1, h3⟩

/-- What was read is read again; what is new is read behind it. -/
theorem read_on (a s : ByteArray) (hb : rdB true a = false) :
    rdL true (a ++ s) = rdL true a ++ rdL true (left a (rdN true a) ++ s) ∧ rdN true (a ++ s) = rdN true a + rdN true (left a (rdN true a) ++ s) ∧ rdB true (a ++ s) = rdB true (left a (rdN true a) ++ s) ∧ rdN true a ≤ a.size := by
  obtain ⟨aL, aN, aB⟩ := rd_parts true a
  obtain ⟨P, hP⟩ : ∃ P, rdec true (a.size + 1) a 0 = P := ⟨_, rfl⟩
  rw [hP] at aL aN aB
  rw [aB] at hb
  obtain ⟨X, hX⟩ : ∃ X, rdec true ((left (a ++ s) P.2.1).size + 1) (left (a ++ s) P.2.1) 0 = X := ⟨_, rfl⟩
  obtain ⟨h1, h3⟩ := read_raw a s P hP hb X hX
  have e : left a P.2.1 ++ s = left (a ++ s) P.2.1 := (left_app a s h3).symm
  obtain ⟨fL, fN, fB⟩ := rd_parts true (a ++ s)
  obtain ⟨gL, gN, gB⟩ := rd_parts true (left (a ++ s) P.2.1)
  rw [h1] at fL fN fB
  rw [hX] at gL gN gB
  rw [aL, aN, e, fL, fN, fB, gL, gN, gB]
  exact ⟨rfl, rfl, rfl, h3⟩

theorem two_kind {t : ByteArray} (h : rcode true t = 2) : ((recT t).1 = 1 ∨ (recT t).1 = 2 ∨ (recT t).1 = 5) ∧ (recT t).2.2.size ≤ 100000 := by
  obtain ⟨-, -, hs, -⟩ := rcode_two h
  have hd := hd_bd t
  constructor
  · simp only [stopT, Bool.or_eq_false_iff, Bool.true_and] at hs
    have hw := hs.2
    unfold wrongT wrongB at hw
    show hKind t = 1 ∨ hKind t = 2 ∨ hKind t = 5
    by_cases h1 : hKind t = 1
    · exact .inl h1
    · by_cases h2 : hKind t = 2
      · exact .inr (.inl h2)
      · rw [if_neg h1, if_neg h2] at hw
        exact .inr (.inr (by simpa using hw))
  · show (t.extract 8 (8 + hLen t).toNat).size ≤ _
    rw [ByteArray.size_extract]
    omega

theorem rdec_recs (s : ByteArray) : ∀ (f i : Nat), (∀ r ∈ (rdec true f s i).1, (r.1 = 1 ∨ r.1 = 2 ∨ r.1 = 5) ∧ r.2.2.size ≤ 100000) ∧ (rdec true f s i).1.length ≤ s.size - i
  | 0, _ => ⟨by intro r hr; simp [rdec] at hr, by simp [rdec]⟩
  | f + 1, i => by
    rcases rcode_cases true (left s i) with e | e | e
    · rw [rdec_zero e]; exact ⟨by intro r hr; simp at hr, by simp⟩
    · rw [rdec_one e]; exact ⟨by intro r hr; simp at hr, by simp⟩
    · obtain ⟨h1, h2, -⟩ := rcode_two e
      rw [left_size] at h2
      obtain ⟨i1, i2⟩ := rdec_recs s f (i + sizeT (left s i))
      rw [rdec_two e]
      refine ⟨?_, ?_⟩
      · intro r hr
        rcases List.mem_cons.1 hr with x | x
        · rw [x]; exact two_kind e
        · exact i1 r x
      · simp only [List.length_cons]; omega

end Go.Proofs.YtlafkpaljibonaaGreat
