import Derived.Test.YtlafkpaljibonaaGreatR3
namespace Go.Proofs.YtlafkpaljibonaaGreat
open Go.RowKit

def RM.jobV (m : RM) (n : Int) : ByteArray := cond (isS n && (m.slot n.toNat).st == 3) (m.key (m.slot n.toNat).key).body ⟨#[]⟩

section
variable {o : Nat → Tag} {q : Nat} {w : World} {b : Nat} {m : RM} {lv : Nat → Value} {kv qv : Value}

set_option maxRecDepth 100000 in
set_option maxHeartbeats 1000000 in
theorem rJob_any (h : RMem o q w b m lv kv qv) (hwf : m.wf) (n : Int) :
    Calls Tryz.prog 40 #[.pointer (some ⟨b, 0, none⟩), .int .i64 n] w fun r w' => r = .returned (.tuple #[.string (m.jobV n), .int .i64 (m.stE n 3)]) ∧ Below w.heap.size w w' := by
  have hc : Hid (∀ w', RMem o q w' b m lv kv qv → Calls Tryz.prog 77 #[.pointer (some ⟨b, 0, none⟩), .int .i64 n, .int .i64 3] w' fun r w'' => r = .returned (.int .i64 (m.stE n 3)) ∧ w'' = w') := fun w' h' => rState_any h' n 3
  unfold RM.jobV
  unfold RM.stE at *
  rcases isS_cases n with h0 | ⟨h0, k, hk, rfl⟩
  · simp only [h0, cond_false, Bool.false_and] at *
    go_enter Tryz.func40, Tryz.ntmps40
    go_wp2_with fail
    refine (hc.out _ h).mono ?_
    rintro e w1 ⟨rfl, rfl⟩
    go_wp2
    go_ret2
    exact ⟨rfl, Below.refl _ _⟩
  · simp only [h0, cond_true, Int.toNat_natCast, Bool.true_and] at *
    by_cases h3 : (m.slot k).st = 3
    · have hkey := hwf.s k hk h3
      simp only [h3, beq_self_eq_true, cond_true] at *
      obtain ⟨ak, ck, rfl, hkn, hkrow⟩ := h.klist
      obtain ⟨gk, rfl, hgk, hgb, -, -, -, -, g2, -⟩ := hkrow _ hkey
      have hkv := h.keysv
      obtain ⟨-, -, -, -, c4⟩ := h.slotc hk
      rw [← m.key_eq hkey] at g2
      generalize (m.key (m.slot k).key).body = bd at *
      clear hkrow h3
      go_enter Tryz.func40, Tryz.ntmps40
      go_wp2_with fail
      refine (hc.out _ h).mono ?_
      rintro e w1 ⟨rfl, rfl⟩
      go_wp2
      go_quiet (fail)
      go_wp2
      go_ret2
      exact ⟨rfl, below_dN (Below.refl _ _)⟩
    · have h3' : ((m.slot k).st == 3) = false := by simpa using h3
      simp only [h3', cond_false] at *
      go_enter Tryz.func40, Tryz.ntmps40
      go_wp2_with fail
      refine (hc.out _ h).mono ?_
      rintro e w1 ⟨rfl, rfl⟩
      go_wp2
      go_ret2
      exact ⟨rfl, Below.refl _ _⟩

def encs : List Rec → ByteArray
  | [] => ⟨#[]⟩
  | r :: l => encB r.1 r.2.1 r.2.2 ++ encs l
def RM.sent_ (m : RM) (n : Int) : ByteArray := cond (isC n) (encs (m.line n.toNat).sent) ⟨#[]⟩

theorem encs_append (a b : List Rec) : encs (a ++ b) = encs a ++ encs b := by
  induction a with
  | nil => simp [encs, nil_ba]
  | cons r a ih => simp only [List.cons_append, encs, ih, ByteArray.append_assoc]

theorem encs_size (l : List Rec) : (encs l).size ≤ l.length * 208 := by
  induction l with
  | nil => decide
  | cons r l ih =>
    have := encB_size r.1 r.2.1 r.2.2
    simp only [encs, ByteArray.size_append, List.length_cons]
    omega

set_option maxRecDepth 100000 in
set_option maxHeartbeats 1000000 in
theorem rSent_any (h : RMem o q w b m lv kv qv) (n : Int) (hmax : ∀ k, k < 4 → (m.line k).sent.length ≤ 1000000000000) :
    Calls Tryz.prog 36 #[.pointer (some ⟨b, 0, none⟩), .int .i64 n] w fun r w' => r = .returned (.string (m.sent_ n)) ∧ Below w.heap.size w w' := by
  unfold RM.sent_
  rcases isC_cases n with h0 | ⟨h0, k, hk, rfl⟩
  · simp only [h0, cond_false]
    go_enter Tryz.func36, Tryz.ntmps36
    go_wp2_with fail
    refine (rIsConn_any _ _).mono ?_
    rintro e w1 ⟨rfl, rfl⟩
    rw [h0]
    go_wp2
    go_ret
    exact ⟨rfl, Below.refl _ _⟩
  · simp only [h0, cond_true, Int.toNat_natCast]
    obtain ⟨-, -, -, c3⟩ := h.linec hk
    obtain ⟨ao, c, hv, hn, hg0⟩ := (h.sent k hk).form
    have hrow := (h.sent k hk).1
    have hlim := hmax k hk
    have hbl := h.blk.lt
    rw [hv] at c3 hrow
    clear hmax hv
    generalize (m.line k).sent = l at *
    go_enter Tryz.func36, Tryz.ntmps36
    go_wp2_with fail
    refine (rIsConn_any _ _).mono ?_
    rintro e w1 ⟨rfl, rfl⟩
    rw [h0]
    go_wp2
    go_loopw [6, 7] (fun s i w' => ∃ j : Nat, j ≤ l.length ∧ s = .string (encs (l.take j)) ∧ i = .int .i64 j ∧ Below w1.heap.size w1 w') (fun _ i _ => l.length - (intOf i).toNat)
    case atStart => exact ⟨0, by omega, rfl, rfl, Below.refl _ _⟩
    case round =>
      obtain ⟨j, hj, rfl, rfl, hb⟩ := hrel
      rw [← hb.cell (by exact hbl)] at c3
      by_cases hlt : j < l.length
      · obtain ⟨g, rfl, hgo, hg⟩ := hg0 (by omega)
        have hr := rowOf_get l j hlt
        rw [Nat.mul_comm 3 j] at hr
        have c0 := hrow.cellAt (j * 3) (by omega)
        have c1 := hrow.cellAt (j * 3 + 1) (by omega)
        have c2 := hrow.cellAt (j * 3 + 2) (by omega)
        rw [hr.1, ← hb.cell (by exact hg)] at c0
        rw [hr.2.1, ← hb.cell (by exact hg)] at c1
        rw [hr.2.2, ← hb.cell (by exact hg)] at c2
        have hst := List.take_succ_eq_append_getElem hlt
        have HS : Hid _ := hst
        have hs1 := encs_size (l.take j)
        rw [List.length_take] at hs1
        clear hst hr hrow
        generalize l[j] = r at *
        have hs2 := encB_size r.1 r.2.1 r.2.2
        have HE : Hid (∀ w, Calls Tryz.prog 73 #[.agg #[.int .i64 r.1, .int .i64 r.2.1, .string r.2.2]] w fun x w' => x = .returned (.tuple #[.string (encB r.1 r.2.1 r.2.2), .int .i64 (encE r.1 r.2.1 r.2.2)]) ∧ Below w.heap.size w w') := fun w => refEncode_any _ _ _ w
        generalize hE : encB r.1 r.2.1 r.2.2 = E at *
        have HE2 : Hid _ := hE
        generalize hS : encs (l.take j) = S at *
        have HS2 : Hid _ := hS
        clear hE hS
        have hcat : ¬ (9223372036854775807 < S.size + E.size) := by omega
        go_wp2_with fail
        refine (HE.out _).mono ?_
        rintro e w2 ⟨rfl, hb2⟩
        go_wp2
        refine ⟨⟨j + 1, by omega, ?_, by go_num, hb.trans (hb2.mono hb.size)⟩, by simp [intOf]; omega⟩
        rw [HS.out, encs_append, HS2.out]
        simp only [encs, ba_nil, HE2.out]
      · have : j = l.length := by omega
        go_wp2
        go_ret
        rw [this, List.take_length]
        exact ⟨rfl, hb⟩

end
end Go.Proofs.YtlafkpaljibonaaGreat
