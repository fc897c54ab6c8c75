import Derived.Test.YtlafkpaljibonaaGreatM
import Derived.Deep.MidRow
namespace Go.Proofs.YtlafkpaljibonaaGreat
open Go.RowKit

set_option maxRecDepth 100000 in
set_option maxHeartbeats 400000 in
theorem within_any (n a b : Int) (w : World) :
    Calls Tryz.prog 64 #[.int .i64 n, .int .i64 a, .int .i64 b] w fun r w' => r = .returned (.bool (decide (a ≤ n) && decide (n ≤ b))) ∧ w' = w := by
  go_enter Tryz.func64, Tryz.ntmps64
  go_wp2
  all_goals (go_ret; exact ⟨by simp [*] <;> omega, rfl⟩)

def isC (n : Int) : Bool := decide (0 ≤ n) && decide (n ≤ 3)
def isS (n : Int) : Bool := decide (0 ≤ n) && decide (n ≤ 5)

set_option maxRecDepth 100000 in
set_option maxHeartbeats 400000 in
theorem isConnection_any (n : Int) (w : World) :
    Calls Tryz.prog 71 #[.int .i64 n] w fun r w' => r = .returned (.bool (isC n)) ∧ w' = w := by
  go_enter Tryz.func71, Tryz.ntmps71
  go_wp2_with fail
  refine (within_any _ _ _ _).mono ?_
  rintro e w1 ⟨rfl, rfl⟩
  go_wp2
  go_ret
  exact ⟨rfl, rfl⟩

set_option maxRecDepth 100000 in
set_option maxHeartbeats 400000 in
theorem isSlot_any (n : Int) (w : World) :
    Calls Tryz.prog 74 #[.int .i64 n] w fun r w' => r = .returned (.bool (isS n)) ∧ w' = w := by
  go_enter Tryz.func74, Tryz.ntmps74
  go_wp2_with fail
  refine (within_any _ _ _ _).mono ?_
  rintro e w1 ⟨rfl, rfl⟩
  go_wp2
  go_ret
  exact ⟨rfl, rfl⟩

theorem isC_cases (n : Int) : (isC n = false) ∨ (isC n = true ∧ ∃ k : Nat, k < 4 ∧ n = k) := by
  cases h : isC n
  · exact .inl rfl
  · right
    simp only [isC, Bool.and_eq_true, decide_eq_true_eq] at h
    exact ⟨rfl, n.toNat, by omega, by omega⟩

theorem isS_cases (n : Int) : (isS n = false) ∨ (isS n = true ∧ ∃ k : Nat, k < 6 ∧ n = k) := by
  cases h : isS n
  · exact .inl rfl
  · right
    simp only [isS, Bool.and_eq_true, decide_eq_true_eq] at h
    exact ⟨rfl, n.toNat, by omega, by omega⟩

def PM.open_ (m : PM) (n : Int) : Bool := isC n && (m.con n.toNat).op

section
variable {o : Nat → Tag} {q : Nat} {w : World} {b : Nat} {m : PM} {sv : Nat → Value} {rv : Value}

set_option maxRecDepth 100000 in
set_option maxHeartbeats 400000 in
theorem open_any (h : FMem o q w b m sv rv) (n : Int) :
    Calls Tryz.prog 33 #[.pointer (some ⟨b, 0, none⟩), .int .i64 n] w fun r w' => r = .returned (.bool (m.open_ n)) ∧ w' = w := by
  rcases isC_cases n with h0 | ⟨h0, k, hk, rfl⟩
  · unfold PM.open_
    go_enter Tryz.func33, Tryz.ntmps33
    go_wp2_with fail
    refine (isConnection_any _ _).mono ?_
    rintro e w1 ⟨rfl, rfl⟩
    rw [h0]
    go_wp2
    go_ret
    exact ⟨by simp [h0], rfl⟩
  · have h1 := h.op hk
    unfold PM.open_
    rw [h0]
    simp only [Bool.true_and, Int.toNat_natCast]
    go_enter Tryz.func33, Tryz.ntmps33
    go_wp2_with fail
    refine (isConnection_any _ _).mono ?_
    rintro e w1 ⟨rfl, rfl⟩
    rw [h0]
    go_wp2
    go_ret
    exact ⟨rfl, rfl⟩

set_option maxRecDepth 100000 in
set_option maxHeartbeats 400000 in
theorem time_any (h : FMem o q w b m sv rv) :
    Calls Tryz.prog 20 #[.pointer (some ⟨b, 0, none⟩)] w fun r w' => r = .returned (.int .i64 m.time) ∧ w' = w := by
  have h1 := h.timec
  go_enter Tryz.func20, Tryz.ntmps20
  go_wp2
  go_ret
  exact ⟨rfl, rfl⟩

def slotVal (s : PSlot) : Value := .agg #[.int .i64 s.st, .bool s.old, .int .i64 s.served, .int .i64 s.since, .int .i64 s.conn, .int .i64 s.id]
def slotNil : Value := .agg #[.int .i64 0, .bool false, .int .i64 0, .int .i64 0, .int .i64 0, .int .i64 0]
def PM.slotV (m : PM) (n : Int) : Value := cond (isS n) (slotVal (m.slot n.toNat)) slotNil
def slotE (n : Int) : Int := cond (isS n) 0 5

set_option maxRecDepth 100000 in
set_option maxHeartbeats 400000 in
theorem slot_any (h : FMem o q w b m sv rv) (n : Int) :
    Calls Tryz.prog 37 #[.pointer (some ⟨b, 0, none⟩), .int .i64 n] w fun r w' => r = .returned (.tuple #[m.slotV n, .int .i64 (slotE n)]) ∧ Below w.heap.size w w' := by
  rcases isS_cases n with h0 | ⟨h0, k, hk, rfl⟩
  · simp only [PM.slotV, slotE, h0, cond_false]
    go_enter Tryz.func37, Tryz.ntmps37
    go_wp2_with fail
    refine (isSlot_any _ _).mono ?_
    rintro e w1 ⟨rfl, rfl⟩
    rw [h0]
    go_wp2
    exact bodyPost_ret (v := .tuple #[slotNil, .int .i64 5]) (by simp [results, Tryz.results37, go_sem, slotNil]) rfl ⟨rfl, (Below.refl _ _).alloc (Nat.le_refl _) _⟩
  · have hc := fun ob => (h.alloc ob).slotc hk
    have c0 := fun ob => (hc ob).1
    have c1 := fun ob => (hc ob).2.1
    have c2 := fun ob => (hc ob).2.2.1
    have c3 := fun ob => (hc ob).2.2.2.1
    have c4 := fun ob => (hc ob).2.2.2.2.1
    have c5 := fun ob => (hc ob).2.2.2.2.2.1
    clear hc
    simp only [PM.slotV, slotE, h0, cond_true, Int.toNat_natCast, slotVal]
    go_enter Tryz.func37, Tryz.ntmps37
    go_wp2_with fail
    refine (isSlot_any _ _).mono ?_
    rintro e w1 ⟨rfl, rfl⟩
    rw [h0]
    go_wp2
    exact bodyPost_ret (v := .tuple #[slotVal (m.slot k), .int .i64 0]) (by simp [results, Tryz.results37, go_sem, slotVal]) rfl ⟨rfl, (Below.refl _ _).alloc (Nat.le_refl _) _⟩

def PM.jobV (m : PM) (n : Int) : ByteArray := cond (isS n && (m.slot n.toNat).st == 3) (m.slot n.toNat).job ⟨#[]⟩
def PM.stE (m : PM) (n st : Int) : Int := cond (isS n) (cond ((m.slot n.toNat).st == st) 0 6) 5
def PM.jobE (m : PM) (n : Int) : Int := m.stE n 3

set_option maxRecDepth 100000 in
set_option maxHeartbeats 400000 in
theorem checkState_any (h : FMem o q w b m sv rv) (n st : Int) :
    Calls Tryz.prog 76 #[.pointer (some ⟨b, 0, none⟩), .int .i64 n, .int .i64 st] w fun r w' => r = .returned (.int .i64 (m.stE n st)) ∧ w' = w := by
  unfold PM.stE
  rcases isS_cases n with h0 | ⟨h0, k, hk, rfl⟩
  · simp only [h0, cond_false]
    go_enter Tryz.func76, Tryz.ntmps76
    go_wp2_with fail
    refine (isSlot_any _ _).mono ?_
    rintro e w1 ⟨rfl, rfl⟩
    rw [h0]
    go_wp2
    go_ret
    exact ⟨rfl, rfl⟩
  · obtain ⟨c0, -⟩ := h.slotc hk
    simp only [h0, cond_true, Int.toNat_natCast]
    generalize (m.slot k).st = s at *
    by_cases hs : s = st
    · subst hs
      simp only [beq_self_eq_true, cond_true]
      go_enter Tryz.func76, Tryz.ntmps76
      go_wp2_with fail
      refine (isSlot_any _ _).mono ?_
      rintro e w1 ⟨rfl, rfl⟩
      rw [h0]
      go_wp2
      go_ret
      exact ⟨rfl, rfl⟩
    · have hs2 : (s == st) = false := by simpa using hs
      simp only [hs2, cond_false]
      go_enter Tryz.func76, Tryz.ntmps76
      go_wp2_with fail
      refine (isSlot_any _ _).mono ?_
      rintro e w1 ⟨rfl, rfl⟩
      rw [h0]
      go_wp2
      go_ret
      exact ⟨rfl, rfl⟩

set_option maxRecDepth 100000 in
set_option maxHeartbeats 400000 in
theorem job_any (h : FMem o q w b m sv rv) (n : Int) :
    Calls Tryz.prog 39 #[.pointer (some ⟨b, 0, none⟩), .int .i64 n] w fun r w' => r = .returned (.tuple #[.string (m.jobV n), .int .i64 (m.jobE n)]) ∧ w' = w := by
  have k1 : Hid (Calls Tryz.prog 76 #[.pointer (some ⟨b, 0, none⟩), .int .i64 n, .int .i64 3] w fun r w'' => r = .returned (.int .i64 (m.stE n 3)) ∧ w'' = w) := checkState_any h n 3
  unfold PM.jobE
  rcases isS_cases n with h0 | ⟨h0, k, hk, rfl⟩
  · have e : m.stE n 3 = 5 := by simp [PM.stE, h0]
    rw [e] at k1 ⊢
    simp only [PM.jobV, h0, Bool.false_and, cond_false]
    go_enter Tryz.func39, Tryz.ntmps39
    go_wp2_with fail
    refine k1.out.mono ?_
    rintro e w1 ⟨rfl, rfl⟩
    go_wp2
    go_ret2
    exact ⟨rfl, rfl⟩
  · obtain ⟨c0, -, -, -, -, -, c6⟩ := h.slotc hk
    by_cases h3 : (m.slot k).st = 3
    · have e : m.stE (k : Int) 3 = 0 := by simp [PM.stE, h0, h3]
      rw [e] at k1 ⊢
      simp only [PM.jobV, h0, Int.toNat_natCast, Bool.true_and, h3, beq_self_eq_true, cond_true]
      clear h3
      go_enter Tryz.func39, Tryz.ntmps39
      go_wp2_with fail
      refine k1.out.mono ?_
      rintro e w1 ⟨rfl, rfl⟩
      go_wp2
      go_ret2
      exact ⟨rfl, rfl⟩
    · have h3' : ((m.slot k).st == 3) = false := by simpa using h3
      have e : m.stE (k : Int) 3 = 6 := by simp [PM.stE, h0, h3']
      rw [e] at k1 ⊢
      simp only [PM.jobV, h0, Int.toNat_natCast, Bool.true_and, h3', cond_false]
      clear h3 h3'
      go_enter Tryz.func39, Tryz.ntmps39
      go_wp2_with fail
      refine k1.out.mono ?_
      rintro e w1 ⟨rfl, rfl⟩
      go_wp2
      go_ret2
      exact ⟨rfl, rfl⟩

def slotsCells (m : PM) : List Value := (m.slot 0).cells ++ ((m.slot 1).cells ++ ((m.slot 2).cells ++ ((m.slot 3).cells ++ ((m.slot 4).cells ++ (m.slot 5).cells))))

theorem slots_range (h : FMem o q w b m sv rv) : w.rangeAt b 21 (slotsCells m) := by
  intro j v hv
  refine h.blk.cell ?_
  have e : fcells m sv rv = (m.set.cells ++ .int .i64 m.time :: ((m.con 0).cells (sv 0) ++ ((m.con 1).cells (sv 1) ++ ((m.con 2).cells (sv 2) ++ ((m.con 3).cells (sv 3) ++ [rv]))))) ++ slotsCells m := by
    simp [fcells, slotsCells]
  rw [e, List.getElem?_append_right (by simp [Cfg.cells, PConn.cells])]
  simpa [Cfg.cells, PConn.cells] using hv

theorem slots_info (m : PM) : (Tryz.prog.info? 62).map (·.size) = some (slotsCells m).length := by
  simp only [slotsCells, PSlot.cells]; kernel_rfl

theorem infoPlace : (Tryz.prog.info? 61).map (fun i => (i.zero, i.size, i.bytes)) = some (some (.agg #[.int .i64 0, .bool false, .int .i64 0, .int .i64 0, .int .i64 0, .int .i64 0, .string ⟨#[]⟩]), 7, 64) := by kernel_rfl

set_option maxRecDepth 100000 in
theorem index_slots (m : PM) (k : Nat) (hk : k < 6) (w : World) : (Instr.index 62 (.agg (slotsCells m).toArray) (.int .i64 k)).run Tryz.prog w = .ok (.agg (m.slot k).cells.toArray) w := by
  obtain ⟨i0, hi, hz0, hz1, hz2⟩ := info_parts infoPlace
  have h1 : (0 : Int) ≤ k ∧ (k : Int) < 6 := by omega
  simp [Instr.index, run_underlying Tryz.underlying62, asIntOf, h1, sizeOf, typeInfo, hi, hz1, part, isAgg, run_underlying Tryz.underlying61]
  rcases k with _ | _ | _ | _ | _ | _ | k
  all_goals first | rfl | omega

/-- How many of the first k slots are not Empty. -/
def PM.usedTo (m : PM) : Nat → Int
  | 0 => 0
  | k + 1 => m.usedTo k + (if (m.slot k).st == 0 then 0 else 1)

theorem PM.usedTo_bd (m : PM) (k : Nat) : 0 ≤ m.usedTo k ∧ m.usedTo k ≤ k := by
  induction k with
  | zero => simp [PM.usedTo]
  | succ k ih => simp only [PM.usedTo]; split <;> omega

/-- How many of the first k slots are in that state. -/
def PM.inTo (m : PM) (st : Int) : Nat → Int
  | 0 => 0
  | k + 1 => m.inTo st k + (if (m.slot k).st == st then 1 else 0)

theorem PM.inTo_bd (m : PM) (st : Int) (k : Nat) : 0 ≤ m.inTo st k ∧ m.inTo st k ≤ k := by
  induction k with
  | zero => simp [PM.inTo]
  | succ k ih => simp only [PM.inTo]; split <;> omega

theorem PM.used_in (m : PM) (k : Nat) : m.usedTo k = k - m.inTo 0 k := by
  induction k with
  | zero => rfl
  | succ k ih =>
    simp only [PM.usedTo, PM.inTo, ih]
    cases ((m.slot k).st == 0) <;> simp <;> omega

set_option maxRecDepth 100000 in
set_option maxHeartbeats 1000000 in
theorem inState_any (h : FMem o q w b m sv rv) (st : Int) :
    Calls Tryz.prog 96 #[.pointer (some ⟨b, 0, none⟩), .int .i64 st] w fun r w' => r = .returned (.int .i64 (m.inTo st 6)) ∧ Below w.heap.size w w' := by
  have hl := slots_range h
  have hn := slots_info m
  have hi := index_slots m
  generalize slotsCells m = SC at *
  simp only [PSlot.cells] at hi
  go_enter Tryz.func96, Tryz.ntmps96
  go_wp2_with (refine wpList_load_mid rfl 62 (.tmp 10) rfl b 21 rfl SC _ hl Tryz.underlying62 rfl hn ?_)
  go_loopw [5, 12] (fun c i w' => ∃ k : Nat, k ≤ 6 ∧ c = .int .i64 (m.inTo st k) ∧ i = .int .i64 k ∧ Below w.heap.size w w') (fun _ i _ => 6 - (intOf i).toNat)
  case atStart => exact ⟨0, by omega, rfl, rfl, Below.refl _ _⟩
  case round =>
    obtain ⟨k, hk, rfl, rfl, hb⟩ := hrel
    by_cases hlt : k < 6
    · have hik := hi k hlt
      clear hi hl hn
      have hbd := m.inTo_bd st k
      go_wp2
      all_goals
        refine ⟨⟨k + 1, by omega, ?_, by go_num, hb.alloc hb.size _⟩, by simp [intOf]; omega⟩
        simp only [PM.inTo]
        simp_all
    · have : k = 6 := by omega
      subst this
      go_wp2
      go_ret
      exact ⟨rfl, hb⟩

set_option maxRecDepth 100000 in
set_option maxHeartbeats 1000000 in
theorem used_any (h : FMem o q w b m sv rv) :
    Calls Tryz.prog 93 #[.pointer (some ⟨b, 0, none⟩)] w fun r w' => r = .returned (.int .i64 (m.usedTo 6)) ∧ Below w.heap.size w w' := by
  have kc : Hid (∀ w', FMem o q w' b m sv rv → Calls Tryz.prog 96 #[.pointer (some ⟨b, 0, none⟩), .int .i64 0] w' fun r w'' => r = .returned (.int .i64 (m.inTo 0 6)) ∧ Below w'.heap.size w' w'') := fun w' h' => inState_any h' 0
  have hbd := m.inTo_bd 0 6
  rw [m.used_in 6]
  generalize m.inTo 0 6 = u at *
  go_enter Tryz.func93, Tryz.ntmps93
  go_wp2_with fail
  refine (kc.out _ h).mono ?_
  rintro e w1 ⟨rfl, hb⟩
  go_wp2
  go_ret
  exact ⟨rfl, hb⟩

end
end Go.Proofs.YtlafkpaljibonaaGreat
