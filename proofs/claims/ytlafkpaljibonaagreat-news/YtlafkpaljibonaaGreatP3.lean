import Derived.Test.YtlafkpaljibonaaGreatP2
namespace Go.Proofs.YtlafkpaljibonaaGreat
open Go.RowKit

theorem Row.form {o : Nat → Tag} {w : World} {t : Tag} {e : TypeId} {size n : Nat} {v : Value} {xs : List Value} (h : Row o w t e size v n xs) :
    ∃ ao c, v = .slice ao n c ∧ (n : Int) ≤ 9223372036854775807 ∧ (0 < n → ∃ g, ao = some ⟨g, 0, none⟩ ∧ o g = t ∧ g < w.heap.size) := by
  obtain ⟨h1, h2⟩ := h
  rcases h1.2 with ⟨rfl, rfl⟩ | ⟨g, cap, cur, rfl, hb, hg, hn, hc, hs, ht⟩
  · exact ⟨_, _, rfl, by omega, by omega⟩
  · refine ⟨_, _, rfl, by simp only [maxLen] at hc; omega, fun _ => ⟨g, rfl, h2 g rfl, (Array.getElem?_eq_some_iff.1 hg).1⟩⟩

section
variable {o : Nat → Tag} {q : Nat} {w : World} {b : Nat} {m : PM} {sv : Nat → Value} {rv : Value}

/-- The requests' list as a value, its rows by their numbers. -/
theorem FMem.list (h : FMem o q w b m sv rv) : ∃ ao c, rv = .slice ao m.req.length c ∧ (m.req.length : Int) ≤ 9223372036854775807 ∧
    ∀ k (hk : k < m.req.length), ∃ g, ao = some ⟨g, 0, none⟩ ∧ g < w.heap.size ∧ g ≠ b ∧ o g = (q, 6) ∧
    w.cell? ⟨g, k * 4, none⟩ = some (.int .i64 m.req[k].conn) ∧ w.cell? ⟨g, k * 4 + 1, none⟩ = some (.int .i64 m.req[k].id) ∧ w.cell? ⟨g, k * 4 + 2, none⟩ = some (.int .i64 m.req[k].stage) ∧ w.cell? ⟨g, k * 4 + 3, none⟩ = some (.string m.req[k].body) := by
  obtain ⟨ao, c, hv, hn, -⟩ := h.reqs.form
  refine ⟨ao, c, hv, hn, fun k hk => ?_⟩
  obtain ⟨g, c', hv', h1, h2, h3, h4⟩ := req_cells h k hk
  rw [hv'] at hv
  simp only [Value.slice.injEq] at hv
  exact ⟨g, hv.1.symm, h1, h2, h3, h4⟩

set_option maxRecDepth 100000 in
set_option maxHeartbeats 1000000 in
theorem firstWaiting_any (h : FMem o q w b m sv rv) :
    Calls Tryz.prog 98 #[.pointer (some ⟨b, 0, none⟩)] w fun r w' => r = .returned (fwV m.fw) ∧ Below w.heap.size w w' := by
  obtain ⟨ao, c, rfl, hn, hrow⟩ := h.list
  have h1 := h.reqv
  go_enter Tryz.func98, Tryz.ntmps98
  go_wp2
  go_loopw [11] (fun i w' => ∃ k : Nat, k ≤ m.req.length ∧ i = .int .i64 k ∧ m.fw = firstW (m.req.drop k) k ∧ Below w.heap.size w w') (fun i _ => m.req.length - (intOf i).toNat)
  case atStart => exact ⟨0, by omega, rfl, rfl, Below.refl _ _⟩
  case round =>
    obtain ⟨k, hk, rfl, hfw, hb⟩ := hrel
    have HF : Hid _ := hfw
    clear hfw
    by_cases hlt : k < m.req.length
    · obtain ⟨g, rfl, hg, -, -, c0, c1, c2, c3⟩ := hrow k hlt
      have hst := firstW_drop m.req k hlt
      have HS : Hid _ := hst
      clear hst hrow
      rw [← hb.cell (by exact hg)] at c0 c1 c2 c3
      generalize m.req[k] = r at *
      by_cases h1 : r.stage = 1
      · rw [h1] at c2
        go_wp2
        go_ret2
        refine ⟨?_, hb.alloc hb.size _⟩
        rw [HF.out, HS.out, h1]; rfl
      · have h2 : (r.stage == 1) = false := by simpa using h1
        go_wp2
        refine ⟨⟨k + 1, by omega, by go_num, ?_, hb.alloc hb.size _⟩, by simp [intOf]; omega⟩
        rw [HF.out, HS.out, h2]; rfl
    · have : k = m.req.length := by omega
      go_wp2
      go_ret2
      refine ⟨?_, hb⟩
      rw [HF.out, this]
      simp [firstW, fwV]

def PM.lease (m : PM) (a k : Nat) (r : Req) : PM :=
  { m with
    slot := upd m.slot k ⟨3, (m.slot k).old, wrap64 ((m.slot k).served + 1), m.time, r.conn, r.id, r.body⟩
    req := m.req.set a { r with stage := 2, body := ⟨#[]⟩ } }

theorem fcells_lease (m : PM) (sv : Nat → Value) (rv : Value) (k : Nat) (hk : k < 6) (s : PSlot) (ho : s.old = (m.slot k).old) :
    ((((((fcells m sv rv).set (21 + k * 7) (.int .i64 s.st)).set (21 + k * 7 + 3) (.int .i64 s.since)).set (21 + k * 7 + 2) (.int .i64 s.served)).set (21 + k * 7 + 4) (.int .i64 s.conn)).set (21 + k * 7 + 5) (.int .i64 s.id)).set (21 + k * 7 + 6) (.string s.job) =
      fcells { m with slot := upd m.slot k s } sv rv := by
  obtain ⟨a1, a2, a3, a4, a5, a6, a7⟩ := s
  simp only at ho
  subst ho
  rcases k with _ | _ | _ | _ | _ | _ | k <;> first | rfl | omega

theorem reqCells_stage (l : List Req) (a : Nat) (ha : a < l.length) (x : Int) : reqCells (l.set a { l[a] with stage := x }) = (reqCells l).set (a * 4 + 2) (.int .i64 x) := by
  induction l generalizing a with
  | nil => simp at ha
  | cons r l ih =>
    have e : ∀ (r : Req) l, reqCells (r :: l) = .int .i64 r.conn :: .int .i64 r.id :: .int .i64 r.stage :: .string r.body :: reqCells l := by intro r l; simp [reqCells, Req.cells]
    cases a with
    | zero => simp [e]
    | succ a =>
      have := ih a (by simpa using ha)
      rw [show (a + 1) * 4 + 2 = a * 4 + 2 + 1 + 1 + 1 + 1 from by omega]
      simp [e, this]

theorem reqCells_body (l : List Req) (a : Nat) (ha : a < l.length) (x : ByteArray) : reqCells (l.set a { l[a] with body := x }) = (reqCells l).set (a * 4 + 3) (.string x) := by
  induction l generalizing a with
  | nil => simp at ha
  | cons r l ih =>
    have e : ∀ (r : Req) l, reqCells (r :: l) = .int .i64 r.conn :: .int .i64 r.id :: .int .i64 r.stage :: .string r.body :: reqCells l := by intro r l; simp [reqCells, Req.cells]
    cases a with
    | zero => simp [e]
    | succ a =>
      have := ih a (by simpa using ha)
      rw [show (a + 1) * 4 + 3 = a * 4 + 3 + 1 + 1 + 1 + 1 from by omega]
      simp [e, this]

/-- A cell of the requests' list is written. -/
theorem FMem.setReq {g c n : Nat} (h : FMem o q w b m sv (.slice (some ⟨g, 0, none⟩) n c)) (hn : n = m.req.length) (j : Nat) (u : Value) (l : List Req) (hl : l.length = m.req.length) (hc : reqCells l = (reqCells m.req).set j u) :
    FMem o q (w.setCell ⟨g, j, none⟩ u) b { m with req := l } sv (.slice (some ⟨g, 0, none⟩) n c) ∧ Fr q o w o (w.setCell ⟨g, j, none⟩ u) := by
  subst hn
  obtain ⟨h1, h2⟩ := h.reqs
  have hgo : o g = (q, 6) := h2 g rfl
  have hgb : b ≠ g := by rintro rfl; rw [h.tag] at hgo; simp at hgo
  obtain ⟨k1, k2⟩ := h1.stored j u
  have hs : (w.setCell ⟨g, j, none⟩ u).heap.size = w.heap.size := by simp [World.setCell]
  have hcl : Clean o (w.setCell ⟨g, j, none⟩ u) := h.clean.le (Nat.le_of_eq hs.symm)
  have hcon : fcells { m with req := l } sv (.slice (some ⟨g, 0, none⟩) m.req.length c) = fcells m sv (.slice (some ⟨g, 0, none⟩) m.req.length c) := rfl
  refine ⟨⟨hcl, h.tag, ?_, fun k hk => ?_, ?_, h.few⟩, ⟨k2.os, k2.tape, k2.output, k2.size, hcl, fun _ _ => rfl, fun x hx hq => k2.block x hx ?_⟩⟩
  · rw [hcon]; exact h.blk.keep (Below.heap_setCell _ _ _ b hgb)
  · refine (h.sent k hk).keep (fun _ _ => rfl) fun x _ hx => Below.heap_setCell _ _ _ x ?_
    rintro rfl; rw [hgo] at hx; simp at hx; omega
  · show Row _ _ _ _ _ _ l.length (reqCells l)
    rw [hl, hc]; exact ⟨k1, h2⟩
  · rintro e
    simp only [Option.some.injEq] at e
    subst e
    rw [hgo] at hq; exact hq rfl

set_option maxRecDepth 100000 in
set_option maxHeartbeats 2000000 in
theorem lease_any (h : FMem o q w b m sv rv) (a k : Nat) (ha : a < m.req.length) (hk : k < 6) :
    Calls Tryz.prog 99 #[.pointer (some ⟨b, 0, none⟩), .int .i64 a, .int .i64 k] w fun r w' => r = .returned (.tuple #[]) ∧ FMem o q w' b (m.lease a k m.req[a]) sv rv ∧ Fr q o w o w' := by
  obtain ⟨ao, c, rfl, hn, hrow⟩ := h.list
  obtain ⟨g, rfl, hg, hgb, hgo, c0, c1, c2, c3⟩ := hrow a ha
  obtain ⟨d0, d1, d2, d3, d4, d5, d6⟩ := h.slotc hk
  have h1 := h.reqv
  have fz := h.frozen
  have fg : ∀ j, w.frozen? ⟨g, j, none⟩ = false := fun j => h.reqs.1.frozenAt j
  have ht := h.timec
  have hbg : b ≠ g := fun e => hgb e.symm
  go_enter Tryz.func99, Tryz.ntmps99
  go_wp2
  refine bodyPost_end (v := .tuple #[]) (by simp [results, Tryz.results99, go_sem]) rfl ⟨rfl, ?_⟩
  have hb1 := fcells_lease m sv (.slice (some ⟨g, 0, none⟩) m.req.length c) k hk ⟨3, (m.slot k).old, wrap64 ((m.slot k).served + 1), m.time, m.req[a].conn, m.req[a].id, m.req[a].body⟩ rfl
  have hb2 := (((((h.blk.set (21 + k * 7) (.int .i64 3)).set (21 + k * 7 + 3) (.int .i64 m.time)).set (21 + k * 7 + 2) (.int .i64 (wrap64 ((m.slot k).served + 1)))).set (21 + k * 7 + 4) (.int .i64 m.req[a].conn)).set (21 + k * 7 + 5) (.int .i64 m.req[a].id)).set (21 + k * 7 + 6) (.string m.req[a].body)
  rw [hb1] at hb2
  have hoth : ∀ x, x ≠ b → (((((((w.setCell ⟨b, 21 + k * 7, none⟩ (.int .i64 3)).setCell ⟨b, 21 + k * 7 + 3, none⟩ (.int .i64 m.time)).setCell ⟨b, 21 + k * 7 + 2, none⟩ (.int .i64 (wrap64 ((m.slot k).served + 1)))).setCell ⟨b, 21 + k * 7 + 4, none⟩ (.int .i64 m.req[a].conn)).setCell ⟨b, 21 + k * 7 + 5, none⟩ (.int .i64 m.req[a].id)).setCell ⟨b, 21 + k * 7 + 6, none⟩ (.string m.req[a].body)).heap[x]?) = w.heap[x]? := by
    intro x hx
    repeat rw [Below.heap_setCell _ _ _ x (by simpa using hx)]
  have hm1 := h.put hb2 (by simp [World.setCell]) hoth (fun _ _ => rfl) rfl
  have fr1 := h.fr_put hm1 (by simp [World.setCell]) (by simp [World.setCell]) (by simp [World.setCell]) (by simp [World.setCell]) hoth
  obtain ⟨hm2, fr2⟩ := hm1.setReq rfl (a * 4 + 2) (.int .i64 2) _ (by simp) (reqCells_stage m.req a ha 2)
  have hl2 : a < (m.req.set a { m.req[a] with stage := 2 }).length := by simpa using ha
  have hx := reqCells_body (m.req.set a { m.req[a] with stage := 2 }) a hl2 ⟨#[]⟩
  simp only [List.getElem_set_self, List.set_set] at hx
  obtain ⟨hm3, fr3⟩ := hm2.setReq (by simp) (a * 4 + 3) (.string ⟨#[]⟩) _ (by simp) hx
  exact ⟨hm3, (fr1.trans fr2).trans fr3⟩

end
end Go.Proofs.YtlafkpaljibonaaGreat
