import Derived.Test.YtlafkpaljibonaaJ4
import Derived.Test.YtlafkpaljibonaaJ2
import Derived.BigRegion
import Derived.Deep.AppendLies
namespace Go.Proofs.Ytlafkpaljibonaa
open Go.RowKit

/-- A key that collects: its contents come to their end, or one more comes. -/
def PM.inAt (m : PM) (k : Nat) (i : Int) (c : ByteArray) (a : Nat) (r : Req) : PM :=
  cond (r.stage == 0) (cond (c.toList == []) (m.enqueue k i r.body) (cond (decide (500 < (r.body ++ c).size)) (m.endKey k i 4) { m with req := m.req.set a { r with body := r.body ++ c } })) m
def PM.in_ (m : PM) (k : Nat) (i : Int) (c : ByteArray) : PM :=
  match m.find k i with
  | some a => m.inAt k i c a (m.req.getD a noReq)
  | none => m

section
variable {o : Nat → Tag} {q : Nat} {w : World} {b : Nat} {m : PM} {sv : Nat → Value} {rv : Value}

set_option maxRecDepth 100000 in
set_option maxHeartbeats 4000000 in
theorem in_any (h : FMem o q w b m sv rv) (hq : q ≠ 0) (k : Nat) (hk : k < 4) (i : Int) (c : ByteArray) (hs : (m.con k).sent.length ≤ 1000000000000) (hmax : m.req.length ≤ 100000000000) (hc : c.size ≤ 1000000000) (hbd : ∀ r ∈ m.req, r.body.size ≤ 1000000000) :
    Calls Try.prog 106 #[.pointer (some ⟨b, 0, none⟩), .agg #[.int .i64 k, .int .i64 i], .string c] w fun r w' => r = .returned (.tuple #[]) ∧ ∃ o' sv' rv', FMem o' q w' b (m.in_ k i c) sv' rv' ∧ Fr q o w o' w' := by
  have kf : Hid (∀ w', FMem o q w' b m sv rv → Calls Try.prog 104 #[.pointer (some ⟨b, 0, none⟩), .agg #[.int .i64 k, .int .i64 i]] w' fun r w'' => r = .returned (fwV (m.find k i)) ∧ Below w'.heap.size w' w'') := fun w' h' => find_any h' k i
  have x0 := Blk.made w 109 [.int .i64 k, .int .i64 i]
  have hb0 : Below w.heap.size w (w.alloc (.cells #[.int .i64 k, .int .i64 i] 109)) := (Below.refl _ _).alloc (Nat.le_refl _) _
  have hA := h.below hb0
  have frA := Fr.of_below (q := q) h.clean hb0
  unfold PM.in_
  cases hf : m.find k i with
  | none =>
    rw [hf] at kf
    unfold fwV at kf
    simp only
    go_enter Try.func106, Try.ntmps106
    go_wp2_with fail
    refine (kf.out _ hA).mono ?_
    rintro e w1 ⟨rfl, hb1⟩
    go_wp2
    exact bodyPost_ret (v := .tuple #[]) (by simp [results, Try.results106, go_sem]) rfl ⟨rfl, o, sv, rv, hA.below hb1, frA.below hb1⟩
  | some a =>
    obtain ⟨hal, hconn, hid⟩ := m.find_some k i a hf
    rw [hf] at kf
    unfold fwV at kf
    simp only
    have hgd : m.req.getD a noReq = m.req[a] := by simp [List.getD, List.getElem?_eq_getElem hal]
    rw [hgd]
    have hbody := hbd m.req[a] (List.getElem_mem hal)
    unfold PM.inAt
    have hrow : ∀ w', FMem o q w' b m sv rv → ∃ g cp, rv = .slice (some ⟨g, 0, none⟩) m.req.length cp ∧ g < w'.heap.size ∧
        w'.cell? ⟨g, a * 4, none⟩ = some (.int .i64 m.req[a].conn) ∧ w'.cell? ⟨g, a * 4 + 1, none⟩ = some (.int .i64 m.req[a].id) ∧ w'.cell? ⟨g, a * 4 + 2, none⟩ = some (.int .i64 m.req[a].stage) ∧ w'.cell? ⟨g, a * 4 + 3, none⟩ = some (.string m.req[a].body) := by
      intro w' h'
      obtain ⟨g, cp, e, h1, -, -, hc⟩ := req_cells h' a hal
      exact ⟨g, cp, e, h1, hc⟩
    have HR : Hid _ := hrow
    have hset : Hid (∀ x : ByteArray, reqCells (m.req.set a { m.req[a] with body := x }) = (reqCells m.req).set (a * 4 + 3) (.string x)) := fun x => reqCells_body m.req a hal x
    clear hrow hbd hgd
    generalize hr : m.req[a] = r at *
    obtain ⟨rc, ri, rs, rb⟩ := r
    simp only at hconn hid hbody
    subst hconn hid
    clear hr
    by_cases h0 : rs = 0
    · subst h0
      simp only [beq_self_eq_true, cond_true]
      cases hE : (c.toList == [])
      · simp only [cond_false]
        by_cases h5 : 500 < (rb ++ c).size
        · simp only [h5, decide_true, cond_true]
          go_enter Try.func106, Try.ntmps106
          go_wp2_with fail
          refine (kf.out _ hA).mono ?_
          rintro e w1 ⟨rfl, hb1⟩
          have hm1 := hA.below hb1
          have x1 := x0.below hb1
          have fr1 := frA.below hb1
          obtain ⟨g, cp, hrv, hgl, c0, c1, c2, c3⟩ := HR.out _ hm1
          have z0 := hm1.reqv
          rw [hrv] at z0
          have halI : (a : Int) < m.req.length := by omega
          go_wp2_with fail
          refine (joined_any rb c _ (by omega) (by omega)).mono ?_
          rintro e w2 ⟨rfl, hb2⟩
          have hb2' : Below w1.heap.size w1 w2 := ((Below.refl _ _).alloc (Nat.le_refl _) _).trans (hb2.mono (by simp))
          have hm2 := hm1.below hb2'
          have x2 := x1.below hb2'
          have fr2 := fr1.below hb2'
          have y0 := x2.cell (k := 0) (u := .int .i64 k) rfl
          have y1 := x2.cell (k := 1) (u := .int .i64 ri) rfl
          have h5I : (500 : Int) < (rb.size : Int) + (c.size : Int) := by rw [ByteArray.size_append] at h5; omega
          clear c0 c1 c2 c3 z0
          go_wp2_with fail
          refine (end_any hm2 hq k hk ri 4 (by omega) (by omega) hs (by omega)).mono ?_
          rintro e w3 ⟨rfl, o3, sv3, rv3, hm3, fr3⟩
          go_wp2
          exact bodyPost_ret (v := .tuple #[]) (by simp [results, Try.results106, go_sem]) rfl ⟨rfl, o3, sv3, rv3, hm3, fr2.trans fr3⟩
        · simp only [h5, decide_false, cond_false]
          go_enter Try.func106, Try.ntmps106
          go_wp2_with fail
          refine (kf.out _ hA).mono ?_
          rintro e w1 ⟨rfl, hb1⟩
          have hm1 := hA.below hb1
          have x1 := x0.below hb1
          have fr1 := frA.below hb1
          obtain ⟨g, cp, hrv, hgl, c0, c1, c2, c3⟩ := HR.out _ hm1
          have z0 := hm1.reqv
          rw [hrv] at z0
          have halI : (a : Int) < m.req.length := by omega
          go_wp2_with fail
          refine (joined_any rb c _ (by omega) (by omega)).mono ?_
          rintro e w2 ⟨rfl, hb2⟩
          have hb2' : Below w1.heap.size w1 w2 := ((Below.refl _ _).alloc (Nat.le_refl _) _).trans (hb2.mono (by simp))
          have hm2 := hm1.below hb2'
          have fr2 := fr1.below hb2'
          have h5I : ¬ (500 : Int) < (rb.size : Int) + (c.size : Int) := by rw [ByteArray.size_append] at h5; omega
          clear c0 c1 c2 c3 z0
          obtain ⟨g', cp', hrv', hgl', c0, c1, c2, c3⟩ := HR.out _ hm2
          have z0 := hm2.reqv
          rw [hrv'] at z0
          subst hrv'
          have fg : ∀ j, w2.frozen? ⟨g', j, none⟩ = false := fun j => hm2.reqs.1.frozenAt j
          obtain ⟨hm3, fr3⟩ := hm2.setReq rfl (a * 4 + 3) (.string (rb ++ c)) _ (by simp) (hset.out (rb ++ c))
          go_wp2
          refine bodyPost_end (v := .tuple #[]) (by simp [results, Try.results106, go_sem]) rfl ⟨rfl, ?_⟩
          exact ⟨o, sv, _, hm3, fr2.trans fr3⟩
      · simp only [cond_true]
        go_enter Try.func106, Try.ntmps106
        go_wp2_with fail
        refine (kf.out _ hA).mono ?_
        rintro e w1 ⟨rfl, hb1⟩
        have hm1 := hA.below hb1
        have fr1 := frA.below hb1
        obtain ⟨g, cp, hrv, hgl, c0, c1, c2, c3⟩ := HR.out _ hm1
        have z0 := hm1.reqv
        rw [hrv] at z0
        have halI : (a : Int) < m.req.length := by omega
        go_wp2_with fail
        refine (enqueue_any (hm1.alloc _) hq k hk ri 0 rb hs hmax).mono ?_
        rintro e w3 ⟨rfl, o3, sv3, rv3, hm3, fr3⟩
        have frB := fr1.below ((Below.refl w1.heap.size w1).alloc (Nat.le_refl _) (.cells #[.int .i64 k, .int .i64 ri, .int .i64 0, .string rb] 111))
        go_wp2
        exact bodyPost_ret (v := .tuple #[]) (by simp [results, Try.results106, go_sem]) rfl ⟨rfl, o3, sv3, rv3, hm3, frB.trans fr3⟩
    · have h0' : (rs == 0) = false := by simpa using h0
      simp only [h0', cond_false]
      go_enter Try.func106, Try.ntmps106
      go_wp2_with fail
      refine (kf.out _ hA).mono ?_
      rintro e w1 ⟨rfl, hb1⟩
      have hm1 := hA.below hb1
      obtain ⟨g, cp, hrv, hgl, c0, c1, c2, c3⟩ := HR.out _ hm1
      have z0 := hm1.reqv
      rw [hrv] at z0
      have halI : (a : Int) < m.req.length := by omega
      go_wp2
      exact bodyPost_ret (v := .tuple #[]) (by simp [results, Try.results106, go_sem]) rfl ⟨rfl, o, sv, rv, hm1, frA.below hb1⟩

end
end Go.Proofs.Ytlafkpaljibonaa

namespace Go.Proofs.Ytlafkpaljibonaa
open Go.RowKit

/-- A string's byte as a number. -/
def byt (t : ByteArray) (j : Nat) : Int := ((t.data.getD j 0).toNat : Int)

theorem byt_bd (t : ByteArray) (j : Nat) : 0 ≤ byt t j ∧ byt t j ≤ 255 := by
  have := (t.data.getD j 0).toNat_lt
  simp only [byt]; omega

theorem byt_get (t : ByteArray) (j : Nat) (h : j < t.size) : (t[j].toNat : Int) = byt t j := by
  have h2 : j < t.data.size := h
  simp only [byt, Array.getD, h2, dite_true]
  rfl

theorem run_byt (t : ByteArray) (j : Nat) (h : j < t.size) (w : World) : (Instr.index 9 (.string t) (.int .i64 j)).run Try.prog w = .ok (.int .u8 (byt t j)) w := by
  rw [← byt_get t j h]
  simp [go_sem, h]

set_option maxRecDepth 100000 in
set_option maxHeartbeats 1000000 in
theorem readHead_no (t : ByteArray) (w : World) (h : (t.size : Int) < 8) :
    Calls Try.prog 97 #[.string t] w fun r w' => r = .returned (.tuple #[.agg #[.int .i64 0, .int .i64 0, .int .i64 0, .int .i64 0, .int .i64 0, .int .i64 0], .bool false]) ∧ Below w.heap.size w w' := by
  go_enter Try.func97, Try.ntmps97
  go_wp2
  exact bodyPost_ret (v := .tuple #[.agg #[.int .i64 0, .int .i64 0, .int .i64 0, .int .i64 0, .int .i64 0, .int .i64 0], .bool false]) (by simp [results, Try.results97, go_sem]) rfl ⟨rfl, (Below.refl _ _).alloc (Nat.le_refl _) _⟩

set_option maxRecDepth 100000 in
set_option maxHeartbeats 1000000 in
theorem readHead_yes (t : ByteArray) (w : World) (h : 8 ≤ (t.size : Int)) (hmax : (t.size : Int) ≤ 1000000000000) :
    Calls Try.prog 97 #[.string t] w fun r w' => r = .returned (.tuple #[.agg #[.int .i64 (byt t 0), .int .i64 (byt t 1), .int .i64 (byt t 2 * 256 + byt t 3), .int .i64 (byt t 4 * 256 + byt t 5), .int .i64 (byt t 6), .int .i64 (byt t 7)], .bool true]) ∧ Below w.heap.size w w' := by
  have g0 : ∀ w, (Instr.index 9 (.string t) (.int .i64 0)).run Try.prog w = .ok (.int .u8 (byt t 0)) w := fun w => run_byt t 0 (by omega) w
  have g1 : ∀ w, (Instr.index 9 (.string t) (.int .i64 1)).run Try.prog w = .ok (.int .u8 (byt t 1)) w := fun w => run_byt t 1 (by omega) w
  have g2 : ∀ w, (Instr.index 9 (.string t) (.int .i64 2)).run Try.prog w = .ok (.int .u8 (byt t 2)) w := fun w => run_byt t 2 (by omega) w
  have g3 : ∀ w, (Instr.index 9 (.string t) (.int .i64 3)).run Try.prog w = .ok (.int .u8 (byt t 3)) w := fun w => run_byt t 3 (by omega) w
  have g4 : ∀ w, (Instr.index 9 (.string t) (.int .i64 4)).run Try.prog w = .ok (.int .u8 (byt t 4)) w := fun w => run_byt t 4 (by omega) w
  have g5 : ∀ w, (Instr.index 9 (.string t) (.int .i64 5)).run Try.prog w = .ok (.int .u8 (byt t 5)) w := fun w => run_byt t 5 (by omega) w
  have g6 : ∀ w, (Instr.index 9 (.string t) (.int .i64 6)).run Try.prog w = .ok (.int .u8 (byt t 6)) w := fun w => run_byt t 6 (by omega) w
  have g7 : ∀ w, (Instr.index 9 (.string t) (.int .i64 7)).run Try.prog w = .ok (.int .u8 (byt t 7)) w := fun w => run_byt t 7 (by omega) w
  have b0 := byt_bd t 0
  have b1 := byt_bd t 1
  have b2 := byt_bd t 2
  have b3 := byt_bd t 3
  have b4 := byt_bd t 4
  have b5 := byt_bd t 5
  have b6 := byt_bd t 6
  have b7 := byt_bd t 7
  go_enter Try.func97, Try.ntmps97
  go_wp2
  refine wp_region_noPanic ?_
  refine wp_region_held_drew (S := fun _ => True) (by kernel_rfl) trivial (fun hHeld => ?_)
  refine take_at (i := 0) (v := ?tv0) rfl (by kernel_rfl) (by kernel_rfl) (by kernel_rfl) (fun _ _ _ h => h) (by rfl) ?ty0 (by assumption) ?tr0
  case ty0 => (intro w hSw; go_simp; with_reducible rfl)
  simp only [Act.put, List.setIfInBounds_toArray, List.set_cons_zero, List.set_cons_succ]
  refine take_at (i := 1) (v := ?tv1) rfl (by kernel_rfl) (by kernel_rfl) (by kernel_rfl) (fun _ _ _ h => h) (by rfl) ?ty1 (by assumption) ?tr1
  case ty1 => (intro w hSw; go_simp; with_reducible rfl)
  simp only [Act.put, List.setIfInBounds_toArray, List.set_cons_zero, List.set_cons_succ]
  refine take_at (i := 2) (v := ?tv2) rfl (by kernel_rfl) (by kernel_rfl) (by kernel_rfl) (fun _ _ _ h => h) (by rfl) ?ty2 (by assumption) ?tr2
  case ty2 => (intro w hSw; go_simp; with_reducible rfl)
  simp only [Act.put, List.setIfInBounds_toArray, List.set_cons_zero, List.set_cons_succ]
  refine take_at (i := 3) (v := ?tv3) rfl (by kernel_rfl) (by kernel_rfl) (by kernel_rfl) (fun _ _ _ h => h) (by rfl) ?ty3 (by assumption) ?tr3
  case ty3 => (intro w hSw; go_simp; with_reducible rfl)
  simp only [Act.put, List.setIfInBounds_toArray, List.set_cons_zero, List.set_cons_succ]
  refine take_at (i := 4) (v := ?tv4) rfl (by kernel_rfl) (by kernel_rfl) (by kernel_rfl) (fun _ _ _ h => h) (by rfl) ?ty4 (by assumption) ?tr4
  case ty4 => (intro w hSw; go_simp; with_reducible rfl)
  simp only [Act.put, List.setIfInBounds_toArray, List.set_cons_zero, List.set_cons_succ]
  refine take_at (i := 5) (v := ?tv5) rfl (by kernel_rfl) (by kernel_rfl) (by kernel_rfl) (fun _ _ _ h => h) (by rfl) ?ty5 (by assumption) ?tr5
  case ty5 => (intro w hSw; go_simp; with_reducible rfl)
  simp only [Act.put, List.setIfInBounds_toArray, List.set_cons_zero, List.set_cons_succ]
  refine take_at (i := 6) (v := ?tv6) rfl (by kernel_rfl) (by kernel_rfl) (by kernel_rfl) (fun _ _ _ h => h) (by rfl) ?ty6 (by assumption) ?tr6
  case ty6 => (intro w hSw; go_simp; with_reducible rfl)
  simp only [Act.put, List.setIfInBounds_toArray, List.set_cons_zero, List.set_cons_succ]
  refine take_at (i := 7) (v := ?tv7) rfl (by kernel_rfl) (by kernel_rfl) (by kernel_rfl) (fun _ _ _ h => h) (by rfl) ?ty7 (by assumption) ?tr7
  case ty7 => (intro w hSw; go_simp; with_reducible rfl)
  simp only [Act.put, List.setIfInBounds_toArray, List.set_cons_zero, List.set_cons_succ]
  refine take_at (i := 8) (v := ?tv8) rfl (by kernel_rfl) (by kernel_rfl) (by kernel_rfl) (fun _ _ _ h => h) (by rfl) ?ty8 (by assumption) ?tr8
  case ty8 => (intro w hSw; go_simp; with_reducible rfl)
  simp only [Act.put, List.setIfInBounds_toArray, List.set_cons_zero, List.set_cons_succ]
  refine take_at (i := 9) (v := ?tv9) rfl (by kernel_rfl) (by kernel_rfl) (by kernel_rfl) (fun _ _ _ h => h) (by rfl) ?ty9 (by assumption) ?tr9
  case ty9 => (intro w hSw; go_simp; with_reducible rfl)
  simp only [Act.put, List.setIfInBounds_toArray, List.set_cons_zero, List.set_cons_succ]
  refine take_at (i := 10) (v := ?tv10) rfl (by kernel_rfl) (by kernel_rfl) (by kernel_rfl) (fun _ _ _ h => h) (by rfl) ?ty10 (by assumption) ?tr10
  case ty10 => (intro w hSw; go_simp; with_reducible rfl)
  simp only [Act.put, List.setIfInBounds_toArray, List.set_cons_zero, List.set_cons_succ]
  refine take_at (i := 11) (v := ?tv11) rfl (by kernel_rfl) (by kernel_rfl) (by kernel_rfl) (fun _ _ _ h => h) (by rfl) ?ty11 (by assumption) ?tr11
  case ty11 => (intro w hSw; go_simp; with_reducible rfl)
  simp only [Act.put, List.setIfInBounds_toArray, List.set_cons_zero, List.set_cons_succ]
  refine take_at (i := 12) (v := ?tv12) rfl (by kernel_rfl) (by kernel_rfl) (by kernel_rfl) (fun _ _ _ h => h) (by rfl) ?ty12 (by assumption) ?tr12
  case ty12 => (intro w hSw; go_simp; with_reducible rfl)
  simp only [Act.put, List.setIfInBounds_toArray, List.set_cons_zero, List.set_cons_succ]
  refine take_at (i := 13) (v := ?tv13) rfl (by kernel_rfl) (by kernel_rfl) (by kernel_rfl) (fun _ _ _ h => h) (by rfl) ?ty13 (by assumption) ?tr13
  case ty13 => (intro w hSw; go_simp; with_reducible rfl)
  simp only [Act.put, List.setIfInBounds_toArray, List.set_cons_zero, List.set_cons_succ]
  refine take_at (i := 14) (v := ?tv14) rfl (by kernel_rfl) (by kernel_rfl) (by kernel_rfl) (fun _ _ _ h => h) (by rfl) ?ty14 (by assumption) ?tr14
  case ty14 => (intro w hSw; go_simp; with_reducible rfl)
  simp only [Act.put, List.setIfInBounds_toArray, List.set_cons_zero, List.set_cons_succ]
  refine take_at (i := 15) (v := ?tv15) rfl (by kernel_rfl) (by kernel_rfl) (by kernel_rfl) (fun _ _ _ h => h) (by rfl) ?ty15 (by assumption) ?tr15
  case ty15 => (intro w hSw; go_simp; with_reducible rfl)
  simp only [Act.put, List.setIfInBounds_toArray, List.set_cons_zero, List.set_cons_succ]
  refine take_at (i := 16) (v := ?tv16) rfl (by kernel_rfl) (by kernel_rfl) (by kernel_rfl) (fun _ _ _ h => h) (by rfl) ?ty16 (by assumption) ?tr16
  case ty16 => (intro w hSw; go_simp; with_reducible rfl)
  simp only [Act.put, List.setIfInBounds_toArray, List.set_cons_zero, List.set_cons_succ]
  refine take_at (i := 17) (v := ?tv17) rfl (by kernel_rfl) (by kernel_rfl) (by kernel_rfl) (fun _ _ _ h => h) (by rfl) ?ty17 (by assumption) ?tr17
  case ty17 => (intro w hSw; go_simp; with_reducible rfl)
  simp only [Act.put, List.setIfInBounds_toArray, List.set_cons_zero, List.set_cons_succ]
  refine take_at (i := 18) (v := ?tv18) rfl (by kernel_rfl) (by kernel_rfl) (by kernel_rfl) (fun _ _ _ h => h) (by rfl) ?ty18 (by assumption) ?tr18
  case ty18 => (intro w hSw; go_simp; with_reducible rfl)
  simp only [Act.put, List.setIfInBounds_toArray, List.set_cons_zero, List.set_cons_succ]
  refine take_at (i := 19) (v := ?tv19) rfl (by kernel_rfl) (by kernel_rfl) (by kernel_rfl) (fun _ _ _ h => h) (by rfl) ?ty19 (by assumption) ?tr19
  case ty19 => (intro w hSw; go_simp; with_reducible rfl)
  simp only [Act.put, List.setIfInBounds_toArray, List.set_cons_zero, List.set_cons_succ]
  refine take_at (i := 20) (v := ?tv20) rfl (by kernel_rfl) (by kernel_rfl) (by kernel_rfl) (fun _ _ _ h => h) (by rfl) ?ty20 (by assumption) ?tr20
  case ty20 => (intro w hSw; go_simp; with_reducible rfl)
  simp only [Act.put, List.setIfInBounds_toArray, List.set_cons_zero, List.set_cons_succ]
  refine take_at (i := 21) (v := ?tv21) rfl (by kernel_rfl) (by kernel_rfl) (by kernel_rfl) (fun _ _ _ h => h) (by rfl) ?ty21 (by assumption) ?tr21
  case ty21 => (intro w hSw; go_simp; with_reducible rfl)
  simp only [Act.put, List.setIfInBounds_toArray, List.set_cons_zero, List.set_cons_succ]
  refine take_at (i := 22) (v := ?tv22) rfl (by kernel_rfl) (by kernel_rfl) (by kernel_rfl) (fun _ _ _ h => h) (by rfl) ?ty22 (by assumption) ?tr22
  case ty22 => (intro w hSw; go_simp; with_reducible rfl)
  simp only [Act.put, List.setIfInBounds_toArray, List.set_cons_zero, List.set_cons_succ]
  refine take_at (i := 23) (v := ?tv23) rfl (by kernel_rfl) (by kernel_rfl) (by kernel_rfl) (fun _ _ _ h => h) (by rfl) ?ty23 (by assumption) ?tr23
  case ty23 => (intro w hSw; go_simp; with_reducible rfl)
  simp only [Act.put, List.setIfInBounds_toArray, List.set_cons_zero, List.set_cons_succ]
  refine take_at (i := 24) (v := ?tv24) rfl (by kernel_rfl) (by kernel_rfl) (by kernel_rfl) (fun _ _ _ h => h) (by rfl) ?ty24 (by assumption) ?tr24
  case ty24 => (intro w hSw; go_simp; with_reducible rfl)
  simp only [Act.put, List.setIfInBounds_toArray, List.set_cons_zero, List.set_cons_succ]
  refine take_at (i := 25) (v := ?tv25) rfl (by kernel_rfl) (by kernel_rfl) (by kernel_rfl) (fun _ _ _ h => h) (by rfl) ?ty25 (by assumption) ?tr25
  case ty25 => (intro w hSw; go_simp; with_reducible rfl)
  simp only [Act.put, List.setIfInBounds_toArray, List.set_cons_zero, List.set_cons_succ]
  refine take_at (i := 26) (v := ?tv26) rfl (by kernel_rfl) (by kernel_rfl) (by kernel_rfl) (fun _ _ _ h => h) (by rfl) ?ty26 (by assumption) ?tr26
  case ty26 => (intro w hSw; go_simp; with_reducible rfl)
  simp only [Act.put, List.setIfInBounds_toArray, List.set_cons_zero, List.set_cons_succ]
  refine take_at (i := 27) (v := ?tv27) rfl (by kernel_rfl) (by kernel_rfl) (by kernel_rfl) (fun _ _ _ h => h) (by rfl) ?ty27 (by assumption) ?tr27
  case ty27 => (intro w hSw; go_simp; with_reducible rfl)
  simp only [Act.put, List.setIfInBounds_toArray, List.set_cons_zero, List.set_cons_succ]
  refine take_at (i := 28) (v := ?tv28) rfl (by kernel_rfl) (by kernel_rfl) (by kernel_rfl) (fun _ _ _ h => h) (by rfl) ?ty28 (by assumption) ?tr28
  case ty28 => (intro w hSw; go_simp; with_reducible rfl)
  simp only [Act.put, List.setIfInBounds_toArray, List.set_cons_zero, List.set_cons_succ]
  refine only_at (i := 29) rfl (by kernel_rfl) (by rfl) (fun K hK => ?_)
  go_simp
  refine hK.out _ _ trivial ?_
  clear hK K
  refine only_at (i := 30) rfl (by kernel_rfl) (by rfl) (fun K hK => ?_)
  go_simp
  refine hK.out _ _ trivial ?_
  clear hK K
  refine wpAnyH_done (by kernel_rfl) ?_ _
  refine NoPanic.normal ?_
  go_wp2
  exact bodyPost_ret (v := .tuple #[.agg #[.int .i64 (byt t 0), .int .i64 (byt t 1), .int .i64 (byt t 2 * 256 + byt t 3), .int .i64 (byt t 4 * 256 + byt t 5), .int .i64 (byt t 6), .int .i64 (byt t 7)], .bool true]) (by simp [results, Try.results97, go_sem]) rfl ⟨rfl, ((((Below.refl _ _).alloc (Nat.le_refl _) _)).drew.alloc (by simp) _)⟩
end Go.Proofs.Ytlafkpaljibonaa

namespace Go.Proofs.Ytlafkpaljibonaa
open Go.RowKit

theorem bcell {W w1 : World} (hb : Below W.heap.size W w1) : (∀ b o, b < W.heap.size → w1.cell? ⟨b, o, none⟩ = W.cell? ⟨b, o, none⟩) ∧ (∀ b o, b < W.heap.size → w1.frozen? ⟨b, o, none⟩ = W.frozen? ⟨b, o, none⟩) :=
  ⟨fun b o h => hb.cell (p := ⟨b, o, none⟩) h, fun b o h => hb.frozen (p := ⟨b, o, none⟩) h⟩

/-- A cell behind one new block and what a callee did above it. -/
theorem keep_cell {W w2 : World} {o : Obj} (hb : Below (W.alloc o).heap.size (W.alloc o) w2) {a : Addr} {v : Value} (h : W.cell? a = some v) : w2.cell? a = some v := by
  have hlt := World.block_lt_of_cell? W a h
  rw [hb.cell (by simp; omega), World.cell?_alloc_lt _ _ _ hlt, h]
theorem keep_new {W w2 : World} {cs : Array Value} {T : TypeId} (hb : Below (W.alloc (.cells cs T)).heap.size (W.alloc (.cells cs T)) w2) (j : Nat) : w2.cell? ⟨W.heap.size, j, none⟩ = cs[j]? ∧ w2.frozen? ⟨W.heap.size, j, none⟩ = false := by
  refine ⟨?_, ?_⟩
  · rw [hb.cell (by simp)]; exact World.cell?_alloc_at _ _ _ _ rfl
  · rw [hb.frozen (by simp)]; exact World.frozen?_alloc_at _ _ _ _ rfl
theorem keep_frozen {W w2 : World} {o : Obj} (hb : Below (W.alloc o).heap.size (W.alloc o) w2) {a : Addr} (hlt : a.block < W.heap.size) (h : W.frozen? a = false) : w2.frozen? a = false := by
  rw [hb.frozen (by simp; omega), World.frozen?_alloc_old _ _ _ (by omega), h]

def badB (m k i n p z : Int) : Bool := m != 1 || decide (7 < p) || z != 0 || !allowedB k i n

set_option maxRecDepth 100000 in
set_option maxHeartbeats 400000 in
theorem bad_any (m k i n p z : Int) (w : World) :
    Calls Try.prog 98 #[.agg #[.int .i64 m, .int .i64 k, .int .i64 i, .int .i64 n, .int .i64 p, .int .i64 z]] w fun r w' => r = .returned (.bool (badB m k i n p z)) ∧ Below w.heap.size w w' := by
  unfold badB
  cases h1 : m != 1 <;> by_cases h2 : 7 < p <;> cases h3 : z != 0
  all_goals
    go_enter Try.func98, Try.ntmps98
    go_wp2_with (go_at_call 70; refine (allowed_any _ _ _ _).mono ?_; rintro e w' ⟨rfl, rfl⟩)
    go_ret
    exact ⟨by simp [*] <;> omega, (Below.refl _ _).alloc (Nat.le_refl _) _⟩

/-- What the first eight bytes say. -/
def hKind (t : ByteArray) : Int := byt t 1
def hId (t : ByteArray) : Int := byt t 2 * 256 + byt t 3
def hLen (t : ByteArray) : Int := byt t 4 * 256 + byt t 5
def hPad (t : ByteArray) : Int := byt t 6
def badT (t : ByteArray) : Bool := badB (byt t 0) (hKind t) (hId t) (hLen t) (hPad t) (byt t 7)

theorem hd_bd (t : ByteArray) : 0 ≤ hKind t ∧ hKind t ≤ 255 ∧ 0 ≤ hId t ∧ hId t ≤ 65535 ∧ 0 ≤ hLen t ∧ hLen t ≤ 65535 ∧ 0 ≤ hPad t ∧ hPad t ≤ 255 := by
  have b1 := byt_bd t 1
  have b2 := byt_bd t 2
  have b3 := byt_bd t 3
  have b4 := byt_bd t 4
  have b5 := byt_bd t 5
  have b6 := byt_bd t 6
  simp only [hKind, hId, hLen, hPad]; omega

theorem readHead_yes' (t : ByteArray) (w : World) (h : 8 ≤ (t.size : Int)) (hmax : (t.size : Int) ≤ 1000000000000) :
    Calls Try.prog 97 #[.string t] w fun r w' => r = .returned (.tuple #[.agg #[.int .i64 (byt t 0), .int .i64 (hKind t), .int .i64 (hId t), .int .i64 (hLen t), .int .i64 (hPad t), .int .i64 (byt t 7)], .bool true]) ∧ Below w.heap.size w w' :=
  readHead_yes t w h hmax

def nilRec : Value := .agg #[.int .i64 0, .int .i64 0, .string ⟨#[]⟩]

set_option maxRecDepth 100000 in
set_option maxHeartbeats 1000000 in
theorem first_no (t : ByteArray) (w : World) (h : (t.size : Int) < 8) :
    Calls Try.prog 72 #[.string t] w fun r w' => r = .returned (.tuple #[nilRec, .int .i64 0, .int .i64 0]) ∧ Below w.heap.size w w' := by
  go_enter Try.func72, Try.ntmps72
  go_wp2_with fail
  refine (readHead_no t _ h).mono ?_
  rintro e w1 ⟨rfl, hb⟩
  obtain ⟨c0, f0⟩ := keep_new hb 0
  obtain ⟨c1, f1⟩ := keep_new hb 1
  obtain ⟨c2, f2⟩ := keep_new hb 2
  simp only [List.getElem?_toArray, List.getElem?_cons_zero, List.getElem?_cons_succ] at c0 c1 c2
  have hz : w.heap.size < w1.heap.size := by have := hb.size; simp at this; omega
  have h0 : Below w.heap.size w w1 := ((Below.refl _ _).alloc (Nat.le_refl _) _).trans (hb.mono (by simp))
  clear hb
  go_wp2
  refine bodyPost_ret (v := .tuple #[nilRec, .int .i64 0, .int .i64 0]) (by simp [results, Try.results72, go_sem, c0, c1, c2, hz, nilRec]) rfl ⟨rfl, ?_⟩
  repeat (first | exact h0 | refine Below.setCell ?_ (by simp) _ | refine Below.alloc ?_ (by simp; omega) _ | refine Below.drew ?_)

set_option maxRecDepth 100000 in
set_option maxHeartbeats 1000000 in
theorem first_bad (t : ByteArray) (w : World) (h : 8 ≤ (t.size : Int)) (hmax : (t.size : Int) ≤ 1000000000000) (hbad : badT t = true) :
    Calls Try.prog 72 #[.string t] w fun r w' => r = .returned (.tuple #[nilRec, .int .i64 0, .int .i64 7]) ∧ Below w.heap.size w w' := by
  go_enter Try.func72, Try.ntmps72
  go_wp2_with fail
  refine (readHead_yes' t _ h hmax).mono ?_
  rintro e w1 ⟨rfl, hb⟩
  obtain ⟨c0, f0⟩ := keep_new hb 0
  obtain ⟨c1, f1⟩ := keep_new hb 1
  obtain ⟨c2, f2⟩ := keep_new hb 2
  simp only [List.getElem?_toArray, List.getElem?_cons_zero, List.getElem?_cons_succ] at c0 c1 c2
  have hz : w.heap.size < w1.heap.size := by have := hb.size; simp at this; omega
  have h0 : Below w.heap.size w w1 := ((Below.refl _ _).alloc (Nat.le_refl _) _).trans (hb.mono (by simp))
  clear hb
  go_wp2_with fail
  refine (bad_any _ _ _ _ _ _ _).mono ?_
  rintro e w2 ⟨rfl, hb2⟩
  rw [show badB (byt t 0) (hKind t) (hId t) (hLen t) (hPad t) (byt t 7) = true from hbad]
  have d0 := keep_cell hb2 c0
  have d1 := keep_cell hb2 c1
  have d2 := keep_cell hb2 c2
  have k0 := keep_frozen hb2 hz f0
  have k1 := keep_frozen hb2 hz f1
  have k2 := keep_frozen hb2 hz f2
  obtain ⟨e1, -⟩ := keep_new hb2 1
  obtain ⟨e2, -⟩ := keep_new hb2 2
  obtain ⟨e3, -⟩ := keep_new hb2 3
  obtain ⟨e4, -⟩ := keep_new hb2 4
  simp only [List.getElem?_toArray, List.getElem?_cons_zero, List.getElem?_cons_succ] at e1 e2 e3 e4
  have hz2 : w1.heap.size < w2.heap.size := by have := hb2.size; simp at this; omega
  have hz3 : w.heap.size < w2.heap.size := by omega
  have h1 : Below w.heap.size w w2 := (h0.alloc (by omega) _).trans (hb2.mono (by simp; omega))
  clear hb2 c0 c1 c2 f0 f1 f2
  go_wp2
  refine bodyPost_ret (v := .tuple #[nilRec, .int .i64 0, .int .i64 7]) (by simp [results, Try.results72, go_sem, d0, d1, d2, nilRec]) rfl ⟨rfl, ?_⟩
  repeat (first | exact h1 | refine Below.setCell ?_ (by simp) _ | refine Below.alloc ?_ (by simp; omega) _ | refine Below.drew ?_)

set_option maxRecDepth 100000 in
set_option maxHeartbeats 1000000 in
theorem first_part (t : ByteArray) (w : World) (h : 8 ≤ (t.size : Int)) (hmax : (t.size : Int) ≤ 1000000000000) (hbad : badT t = false) (hsz : (t.size : Int) < 8 + hLen t + hPad t) :
    Calls Try.prog 72 #[.string t] w fun r w' => r = .returned (.tuple #[nilRec, .int .i64 0, .int .i64 0]) ∧ Below w.heap.size w w' := by
  have hd := hd_bd t
  go_enter Try.func72, Try.ntmps72
  go_wp2_with fail
  refine (readHead_yes' t _ h hmax).mono ?_
  rintro e w1 ⟨rfl, hb⟩
  obtain ⟨c0, f0⟩ := keep_new hb 0
  obtain ⟨c1, f1⟩ := keep_new hb 1
  obtain ⟨c2, f2⟩ := keep_new hb 2
  simp only [List.getElem?_toArray, List.getElem?_cons_zero, List.getElem?_cons_succ] at c0 c1 c2
  have hz : w.heap.size < w1.heap.size := by have := hb.size; simp at this; omega
  have h0 : Below w.heap.size w w1 := ((Below.refl _ _).alloc (Nat.le_refl _) _).trans (hb.mono (by simp))
  clear hb
  go_wp2_with fail
  refine (bad_any _ _ _ _ _ _ _).mono ?_
  rintro e w2 ⟨rfl, hb2⟩
  rw [show badB (byt t 0) (hKind t) (hId t) (hLen t) (hPad t) (byt t 7) = false from hbad]
  have d0 := keep_cell hb2 c0
  have d1 := keep_cell hb2 c1
  have d2 := keep_cell hb2 c2
  have k0 := keep_frozen hb2 hz f0
  have k1 := keep_frozen hb2 hz f1
  have k2 := keep_frozen hb2 hz f2
  obtain ⟨e1, -⟩ := keep_new hb2 1
  obtain ⟨e2, -⟩ := keep_new hb2 2
  obtain ⟨e3, -⟩ := keep_new hb2 3
  obtain ⟨e4, -⟩ := keep_new hb2 4
  simp only [List.getElem?_toArray, List.getElem?_cons_zero, List.getElem?_cons_succ] at e1 e2 e3 e4
  have hz2 : w1.heap.size < w2.heap.size := by have := hb2.size; simp at this; omega
  have hz3 : w.heap.size < w2.heap.size := by omega
  have h1 : Below w.heap.size w w2 := (h0.alloc (by omega) _).trans (hb2.mono (by simp; omega))
  clear hb2 c0 c1 c2 f0 f1 f2
  go_wp2
  refine bodyPost_ret (v := .tuple #[nilRec, .int .i64 0, .int .i64 0]) (by simp [results, Try.results72, go_sem, d0, d1, d2, nilRec]) rfl ⟨rfl, ?_⟩
  repeat (first | exact h1 | refine Below.setCell ?_ (by simp) _ | refine Below.alloc ?_ (by simp; omega) _ | refine Below.drew ?_)

set_option maxRecDepth 100000 in
set_option maxHeartbeats 1000000 in
theorem first_yes (t : ByteArray) (w : World) (h : 8 ≤ (t.size : Int)) (hmax : (t.size : Int) ≤ 1000000000000) (hbad : badT t = false) (hsz : 8 + hLen t + hPad t ≤ (t.size : Int)) :
    Calls Try.prog 72 #[.string t] w fun r w' => r = .returned (.tuple #[.agg #[.int .i64 (hKind t), .int .i64 (hId t), .string (t.extract 8 (8 + hLen t).toNat)], .int .i64 (8 + hLen t + hPad t), .int .i64 0]) ∧ Below w.heap.size w w' := by
  have hd := hd_bd t
  go_enter Try.func72, Try.ntmps72
  go_wp2_with fail
  refine (readHead_yes' t _ h hmax).mono ?_
  rintro e w1 ⟨rfl, hb⟩
  obtain ⟨c0, f0⟩ := keep_new hb 0
  obtain ⟨c1, f1⟩ := keep_new hb 1
  obtain ⟨c2, f2⟩ := keep_new hb 2
  simp only [List.getElem?_toArray, List.getElem?_cons_zero, List.getElem?_cons_succ] at c0 c1 c2
  have hz : w.heap.size < w1.heap.size := by have := hb.size; simp at this; omega
  have h0 : Below w.heap.size w w1 := ((Below.refl _ _).alloc (Nat.le_refl _) _).trans (hb.mono (by simp))
  clear hb
  go_wp2_with fail
  refine (bad_any _ _ _ _ _ _ _).mono ?_
  rintro e w2 ⟨rfl, hb2⟩
  rw [show badB (byt t 0) (hKind t) (hId t) (hLen t) (hPad t) (byt t 7) = false from hbad]
  have d0 := keep_cell hb2 c0
  have d1 := keep_cell hb2 c1
  have d2 := keep_cell hb2 c2
  have k0 := keep_frozen hb2 hz f0
  have k1 := keep_frozen hb2 hz f1
  have k2 := keep_frozen hb2 hz f2
  obtain ⟨e1, -⟩ := keep_new hb2 1
  obtain ⟨e2, -⟩ := keep_new hb2 2
  obtain ⟨e3, -⟩ := keep_new hb2 3
  obtain ⟨e4, -⟩ := keep_new hb2 4
  simp only [List.getElem?_toArray, List.getElem?_cons_zero, List.getElem?_cons_succ] at e1 e2 e3 e4
  have hz2 : w1.heap.size < w2.heap.size := by have := hb2.size; simp at this; omega
  have hz3 : w.heap.size < w2.heap.size := by omega
  have h1 : Below w.heap.size w w2 := (h0.alloc (by omega) _).trans (hb2.mono (by simp; omega))
  clear hb2 c0 c1 c2 f0 f1 f2
  have hne : w.heap.size ≠ w1.heap.size := by omega
  have hs : ∀ wx : World, (Instr.slice 9 (.string t) (some (.int .i64 8)) (some (.int .i64 (8 + hLen t))) none).run Try.prog wx = .ok (.string (t.extract 8 (8 + hLen t).toNat)) wx := fun wx =>
    run_slice_string (P := Try.prog) wx 9 t .i64 .i64 8 (8 + hLen t) Try.underlying9 (by omega) (by omega) (by omega)
  go_wp2
  go_region_held3 (fun w' => w'.cell? ⟨w1.heap.size, 1, none⟩ = some (.int .i64 (hKind t)) ∧ w'.cell? ⟨w1.heap.size, 2, none⟩ = some (.int .i64 (hId t))) (go_keep) (fail)
  go_wp2
  refine bodyPost_ret (v := .tuple #[.agg #[.int .i64 (hKind t), .int .i64 (hId t), .string (t.extract 8 (8 + hLen t).toNat)], .int .i64 (8 + hLen t + hPad t), .int .i64 0]) (by simp [results, Try.results72, go_sem, d0, d1, d2]) rfl ⟨rfl, ?_⟩
  repeat (first | exact h1 | refine Below.setCell ?_ (by simp) _ | refine Below.alloc ?_ (by simp; omega) _ | refine Below.drew ?_)
end Go.Proofs.Ytlafkpaljibonaa

namespace Go.Proofs.Ytlafkpaljibonaa
open Go.RowKit

/-- A record as the proofs have it: kind, Id, Content. -/
abbrev Rec := Int × Int × ByteArray

def rcells (r : Rec) : List Value := [.int .i64 r.1, .int .i64 r.2.1, .string r.2.2]
def rowOf (l : List Rec) : List Value := l.flatMap rcells

/-- What stands at the beginning of some bytes: 0: nothing whole; 1: a bad head; 2: a record. -/
def code (t : ByteArray) : Nat :=
  if (t.size : Int) < 8 then 0 else if badT t then 1 else if (t.size : Int) < 8 + hLen t + hPad t then 0 else 2
def recT (t : ByteArray) : Rec := (hKind t, hId t, t.extract 8 (8 + hLen t).toNat)
def sizeT (t : ByteArray) : Nat := (8 + hLen t + hPad t).toNat

/-- What is left of s from a place on. -/
def left (s : ByteArray) (i : Nat) : ByteArray := s.extract i s.size

theorem left_size (s : ByteArray) (i : Nat) : (left s i).size = s.size - i := by
  simp [left, ByteArray.size_extract]

def dec : Nat → ByteArray → Nat → List Rec × Nat × Int
  | 0, _, i => ([], i, 0)
  | f + 1, s, i =>
    if code (left s i) = 0 then ([], i, 0)
    else if code (left s i) = 1 then ([], i, 7)
    else (recT (left s i) :: (dec f s (i + sizeT (left s i))).1, (dec f s (i + sizeT (left s i))).2)

def decL (s : ByteArray) : List Rec := (dec (s.size + 1) s 0).1
def decN (s : ByteArray) : Nat := (dec (s.size + 1) s 0).2.1
def decE (s : ByteArray) : Int := (dec (s.size + 1) s 0).2.2

theorem code_two {t : ByteArray} (h : code t = 2) : 8 ≤ sizeT t ∧ sizeT t ≤ t.size ∧ badT t = false ∧ 8 + hLen t + hPad t ≤ (t.size : Int) ∧ 8 ≤ (t.size : Int) := by
  have hd := hd_bd t
  unfold code at h
  split at h
  · cases h
  · split at h
    · cases h
    · split at h
      · cases h
      · rename_i h1 h2 h3
        refine ⟨by unfold sizeT; omega, by unfold sizeT; omega, by simpa using h2, by omega, by omega⟩

theorem code_cases (t : ByteArray) : code t = 0 ∨ code t = 1 ∨ code t = 2 := by
  unfold code
  split
  · simp
  · split
    · simp
    · split <;> simp

theorem dec_zero {f : Nat} {s : ByteArray} {i : Nat} (h : code (left s i) = 0) : dec f s i = ([], i, 0) := by
  cases f with
  | zero => rfl
  | succ f => simp [dec, h]
theorem dec_one {f : Nat} {s : ByteArray} {i : Nat} (h : code (left s i) = 1) : dec (f + 1) s i = ([], i, 7) := by
  simp [dec, h]
theorem dec_two {f : Nat} {s : ByteArray} {i : Nat} (h : code (left s i) = 2) : dec (f + 1) s i = (recT (left s i) :: (dec f s (i + sizeT (left s i))).1, (dec f s (i + sizeT (left s i))).2) := by
  simp [dec, h]

theorem code_short {s : ByteArray} {i : Nat} (h : s.size - i < 8) : code (left s i) = 0 := by
  unfold code
  rw [if_pos]
  rw [left_size]; omega

/-- 'first' in one row. -/
def firstV (t : ByteArray) : Value :=
  if code t = 2 then .tuple #[.agg #[.int .i64 (recT t).1, .int .i64 (recT t).2.1, .string (recT t).2.2], .int .i64 (sizeT t), .int .i64 0]
  else if code t = 1 then .tuple #[nilRec, .int .i64 0, .int .i64 7] else .tuple #[nilRec, .int .i64 0, .int .i64 0]

theorem first_any (t : ByteArray) (w : World) (hmax : (t.size : Int) ≤ 1000000000000) :
    Calls Try.prog 72 #[.string t] w fun r w' => r = .returned (firstV t) ∧ Below w.heap.size w w' := by
  have hd := hd_bd t
  by_cases h1 : (t.size : Int) < 8
  · have : code t = 0 := by simp [code, h1]
    simpa [firstV, this] using first_no t w h1
  · cases h2 : badT t
    · by_cases h3 : (t.size : Int) < 8 + hLen t + hPad t
      · have : code t = 0 := by simp [code, h1, h2, h3]
        simpa [firstV, this] using first_part t w (by omega) hmax h2 h3
      · have : code t = 2 := by simp [code, h1, h2, h3]
        have e : ((sizeT t : Nat) : Int) = 8 + hLen t + hPad t := by unfold sizeT; omega
        simpa [firstV, this, e, recT] using first_yes t w (by omega) hmax h2 (by omega)
    · have : code t = 1 := by simp [code, h1, h2]
      simpa [firstV, this] using first_bad t w (by omega) hmax h2

theorem rowOf_length (l : List Rec) : (rowOf l).length = l.length * 3 := by
  induction l with
  | nil => rfl
  | cons r l ih => simp only [rowOf, List.flatMap_cons, List.length_append, List.length_cons] at ih ⊢; rw [ih]; simp [rcells]; omega

theorem rowOf_append (a b : List Rec) : rowOf (a ++ b) = rowOf a ++ rowOf b := by simp [rowOf]

theorem rowOf_one (r : Rec) : rowOf [r] = rcells r := by simp [rowOf]

theorem rowOf_get (l : List Rec) (k : Nat) (hk : k < l.length) : (rowOf l)[3 * k]? = some (.int .i64 l[k].1) ∧ (rowOf l)[3 * k + 1]? = some (.int .i64 l[k].2.1) ∧ (rowOf l)[3 * k + 2]? = some (.string l[k].2.2) := by
  induction l generalizing k with
  | nil => simp at hk
  | cons r l ih =>
    cases k with
    | zero => simp [rowOf, rcells]
    | succ k =>
      have := ih k (by simpa using hk)
      have e : rowOf (r :: l) = .int .i64 r.1 :: .int .i64 r.2.1 :: .string r.2.2 :: rowOf l := by simp [rowOf, rcells]
      rw [e, show 3 * (k + 1) = 3 * k + 1 + 1 + 1 from by omega, show 3 * k + 1 + 1 + 1 + 1 = 3 * k + 1 + 1 + 1 + 1 from rfl]
      simpa using this

end Go.Proofs.Ytlafkpaljibonaa

namespace Go.Proofs.Ytlafkpaljibonaa
open Go.RowKit

def PM.take (m : PM) (k : Nat) (r : Rec) : PM :=
  if r.1 = 1 then m.begin_ k r.2.1 r.2.2 else if r.1 = 5 then m.in_ k r.2.1 r.2.2 else if r.1 = 2 then m.abort k r.2.1 else m

/-- Nothing has grown beyond R requests, S bytes sent, bodies of 1000 bytes. -/
structure PM.small (m : PM) (R S : Nat) : Prop where
  req : m.req.length ≤ R
  sent : ∀ k, k < 4 → (m.con k).sent.length ≤ S
  body : ∀ r ∈ m.req, r.body.size ≤ 1000

section
variable {m : PM} {R S : Nat}

theorem PM.small.mono (h : m.small R S) {R' S' : Nat} (hR : R ≤ R') (hS : S ≤ S') : m.small R' S' :=
  ⟨Nat.le_trans h.req hR, fun k hk => Nat.le_trans (h.sent k hk) hS, h.body⟩

theorem PM.small.of_eq {m' : PM} (h : m.small R S) (h1 : m'.req = m.req) (h2 : m'.con = m.con) : m'.small R S :=
  ⟨by rw [h1]; exact h.req, fun k hk => by rw [h2]; exact h.sent k hk, by rw [h1]; exact h.body⟩

theorem PM.small.drop (h : m.small R S) (c i : Int) : (m.drop c i).small R S := by
  have e : (m.drop c i).req = withoutL m.req c i := drop_req m c i
  have e2 : (m.drop c i).con = m.con := by unfold PM.drop; cases m.slotOf c i <;> rfl
  refine ⟨?_, fun k hk => by rw [e2]; exact h.sent k hk, ?_⟩
  · rw [e]; exact Nat.le_trans (withoutL_len _ _ _) h.req
  · rw [e]; intro r hr; exact h.body r (List.mem_filter.1 hr).1

theorem PM.small.sendB (h : m.small R S) (k : Nat) (s : ByteArray) (hs : s.size ≤ 208) : (m.sendB k s).small R (S + 208) := by
  refine ⟨h.req, fun j hj => ?_, h.body⟩
  by_cases e : j = k
  · subst e
    simp only [PM.sendB, upd_same, List.length_append, nums_length]
    have := h.sent j hj
    omega
  · simp only [PM.sendB, upd_other _ _ e]
    have := h.sent j hj
    omega

theorem PM.small.endKey (h : m.small R S) (k : Nat) (i st : Int) : (m.endKey k i st).small R (S + 208) :=
  (h.sendB k _ (encB_size _ _ _)).drop _ _

theorem PM.small.begin_ (h : m.small R S) (k : Nat) (i : Int) (role : ByteArray) : (m.begin_ k i role).small (R + 1) (S + 208) := by
  unfold PM.begin_
  cases (role.toList == [1])
  · exact (h.endKey k i 3).mono (by omega) (by omega)
  · cases decide ((m.keysOf k).length ≥ 4)
    · refine ⟨?_, fun j hj => Nat.le_trans (h.sent j hj) (by omega), ?_⟩
      · simp only [cond_false, cond_true, List.length_append, List.length_singleton]; have := h.req; omega
      · intro r hr
        simp only [cond_false, cond_true, List.mem_append, List.mem_singleton] at hr
        rcases hr with hr | rfl
        · exact h.body r hr
        · simp [newReq, ByteArray.size]
    · exact (h.endKey k i 2).mono (by omega) (by omega)

theorem PM.small.enqueue (h : m.small R S) (k : Nat) (i : Int) (body : ByteArray) (hb : body.size ≤ 1000) : (m.enqueue k i body).small (R + 1) (S + 208) := by
  unfold PM.enqueue
  cases m.room
  · exact (h.endKey k i 2).mono (by omega) (by omega)
  · refine ⟨?_, fun j hj => Nat.le_trans (h.sent j hj) (by omega), ?_⟩
    · have := withoutL_len m.req k i
      simp only [cond_true, List.length_append, List.length_singleton]; have := h.req; omega
    · intro r hr
      simp only [cond_true, List.mem_append, List.mem_singleton] at hr
      rcases hr with hr | rfl
      · exact h.body r (List.mem_filter.1 hr).1
      · exact hb

theorem PM.small.in_ (h : m.small R S) (k : Nat) (i : Int) (c : ByteArray) : (m.in_ k i c).small (R + 1) (S + 208) := by
  unfold PM.in_
  cases hf : m.find k i with
  | none => exact h.mono (by omega) (by omega)
  | some a =>
    obtain ⟨hal, -, -⟩ := m.find_some k i a hf
    have hgd : m.req.getD a noReq = m.req[a] := by simp [List.getD, List.getElem?_eq_getElem hal]
    simp only [hgd]
    unfold PM.inAt
    cases (m.req[a].stage == 0)
    · exact h.mono (by omega) (by omega)
    · cases (c.toList == [])
      · cases h5 : decide (500 < (m.req[a].body ++ c).size)
        · simp only [cond_true, cond_false]
          have h5' := of_decide_eq_false h5
          refine ⟨by simp only [List.length_set]; have := h.req; omega, fun j hj => Nat.le_trans (h.sent j hj) (by omega), ?_⟩
          intro r hr
          rcases List.mem_or_eq_of_mem_set hr with hr | rfl
          · exact h.body r hr
          · simp only; omega
        · exact (h.endKey k i 4).mono (by omega) (by omega)
      · exact h.enqueue k i _ (h.body _ (List.getElem_mem hal))

theorem PM.small.abort (h : m.small R S) (k : Nat) (i : Int) : (m.abort k i).small (R + 1) (S + 208) := by
  unfold PM.abort
  cases m.find k i with
  | none => exact h.mono (by omega) (by omega)
  | some a =>
    have hk := killAt_same m (m.slotOf k i)
    exact ((h.of_eq hk.2 hk.1).endKey k i 5).mono (by omega) (by omega)

theorem PM.small.take (h : m.small R S) (k : Nat) (r : Rec) : (m.take k r).small (R + 1) (S + 208) := by
  unfold PM.take
  split
  · exact h.begin_ k _ _
  · split
    · exact h.in_ k _ _
    · split
      · exact h.abort k _
      · exact h.mono (by omega) (by omega)

theorem startTo_same (m : PM) (u : Int) (k : Nat) : (startTo m u k).1.req = m.req ∧ (startTo m u k).1.con = m.con := by
  induction k with
  | zero => exact ⟨rfl, rfl⟩
  | succ k ih =>
    simp only [startTo]
    cases (decide ((startTo m u k).2 < m.set.ch) && ((startTo m u k).1.slot k).st == 0)
    · exact ih
    · exact ih

theorem PM.small.leaseAt (h : m.small R S) (k : Nat) : (m.leaseAt k).small R S := by
  unfold PM.leaseAt
  cases m.fw with
  | none => exact h
  | some a =>
    simp only
    cases ((m.slot k).st == 2)
    · exact h
    · simp only [cond_true]
      refine ⟨by simp only [PM.lease, List.length_set]; exact h.req, h.sent, ?_⟩
      intro r hr
      rcases List.mem_or_eq_of_mem_set hr with hr | rfl
      · exact h.body r hr
      · simp [ByteArray.size]

theorem PM.small.leaseTo (h : m.small R S) (k : Nat) : (m.leaseTo k).small R S := by
  induction k with
  | zero => exact h
  | succ k ih => exact ih.leaseAt k

theorem PM.small.settle (h : m.small R S) : m.settle.small R S := by
  unfold PM.settle PM.leaseWaiting
  refine PM.small.leaseTo ?_ 6
  cases m.set.dyn
  · exact h.of_eq (startTo_same _ _ _).1 (startTo_same _ _ _).2
  · exact h
end

section
variable {o : Nat → Tag} {q : Nat} {w : World} {b : Nat} {m : PM} {sv : Nat → Value} {rv : Value}

set_option maxRecDepth 100000 in
set_option maxHeartbeats 2000000 in
theorem take_any (h : FMem o q w b m sv rv) (hq : q ≠ 0) (k : Nat) (hk : k < 4) (r : Rec) (hc : r.2.2.size ≤ 1000000000) {R S : Nat} (hsm : m.small R S) (hR : R ≤ 100000000000) (hS : S ≤ 1000000000000) :
    Calls Try.prog 84 #[.pointer (some ⟨b, 0, none⟩), .agg #[.int .i64 k, .int .i64 r.2.1], .agg #[.int .i64 r.1, .int .i64 r.2.1, .string r.2.2]] w fun e w' => e = .returned (.tuple #[]) ∧ ∃ o' sv' rv', FMem o' q w' b (m.take k r) sv' rv' ∧ Fr q o w o' w' := by
  obtain ⟨kd, i, c⟩ := r
  simp only at hc
  have hs : (m.con k).sent.length ≤ 1000000000000 := Nat.le_trans (hsm.sent k hk) hS
  have hmax : m.req.length ≤ 100000000000 := Nat.le_trans hsm.req hR
  have hbd : ∀ r ∈ m.req, r.body.size ≤ 1000000000 := fun r hr => Nat.le_trans (hsm.body r hr) (by omega)
  have hb1 : Below w.heap.size w ((w.alloc (.cells #[.int .i64 k, .int .i64 i] 109)).alloc (.cells #[.int .i64 kd, .int .i64 i, .string c] 23)) := ((Below.refl _ _).alloc (Nat.le_refl _) _).alloc (by simp) _
  have hA := h.below hb1
  have frA := Fr.of_below (q := q) h.clean hb1
  unfold PM.take
  simp only
  by_cases h1 : kd = 1
  · subst h1
    simp only [if_true]
    go_enter Try.func84, Try.ntmps84
    go_wp2_with fail
    refine (begin_any hA hq k hk i c hs hmax).mono ?_
    rintro e w2 ⟨rfl, o2, sv2, rv2, hm2, fr2⟩
    go_wp2
    exact bodyPost_end (v := .tuple #[]) (by simp [results, Try.results84, go_sem]) rfl ⟨rfl, o2, sv2, rv2, hm2, frA.trans fr2⟩
  · by_cases h5 : kd = 5
    · subst h5
      rw [if_neg h1, if_pos rfl]
      go_enter Try.func84, Try.ntmps84
      go_wp2_with fail
      refine (in_any hA hq k hk i c hs hmax hc hbd).mono ?_
      rintro e w2 ⟨rfl, o2, sv2, rv2, hm2, fr2⟩
      go_wp2
      exact bodyPost_end (v := .tuple #[]) (by simp [results, Try.results84, go_sem]) rfl ⟨rfl, o2, sv2, rv2, hm2, frA.trans fr2⟩
    · by_cases h2 : kd = 2
      · subst h2
        rw [if_neg h1, if_neg h5, if_pos rfl]
        go_enter Try.func84, Try.ntmps84
        go_wp2_with fail
        refine (abort_any hA hq k hk i hs hmax).mono ?_
        rintro e w2 ⟨rfl, o2, sv2, rv2, hm2, fr2⟩
        go_wp2
        exact bodyPost_end (v := .tuple #[]) (by simp [results, Try.results84, go_sem]) rfl ⟨rfl, o2, sv2, rv2, hm2, frA.trans fr2⟩
      · rw [if_neg h1, if_neg h5, if_neg h2]
        go_enter Try.func84, Try.ntmps84
        go_wp2
        exact bodyPost_end (v := .tuple #[]) (by simp [results, Try.results84, go_sem]) rfl ⟨rfl, o, sv, rv, hA, frA⟩
end
end Go.Proofs.Ytlafkpaljibonaa

namespace Go.Proofs.Ytlafkpaljibonaa
open Go.RowKit

theorem info23 : (Try.prog.info? 23).map (fun i => (i.zero, i.size, i.bytes)) = some (some (.agg #[.int .i64 0, .int .i64 0, .string ⟨#[]⟩]), 3, 32) := by kernel_rfl

theorem news_rec (W : World) (g : Nat) (hg : W.heap.size = g) (r : Rec) (T : TypeId) : ∀ j u, (rcells r)[j]? = some u → (W.alloc (.cells #[.int .i64 r.1, .int .i64 r.2.1, .string r.2.2] T)).cell? ((⟨g, 0, none⟩ : Addr).add j) = some u := by
  subst hg
  exact World.news_of_block (heap_alloc_new W _)

theorem one_rec (r : Rec) : ∀ u ∈ rcells r, u.oneCell' = true := by
  intro u hu
  simp only [rcells, List.mem_cons, List.not_mem_nil, or_false] at hu
  rcases hu with rfl | rfl | rfl <;> rfl

set_option maxRecDepth 100000 in
set_option maxHeartbeats 1000000 in
theorem decode_any (s : ByteArray) (w : World) (hmax : (s.size : Int) ≤ 1000000000000) :
    Calls Try.prog 48 #[.string s] w fun r w' => ∃ v, r = .returned (.tuple #[v, .int .i64 (decN s), .int .i64 (decE s)]) ∧ w'.ownsRow w.heap.size 23 3 v (decL s).length (rowOf (decL s)) ∧ Below w.heap.size w w' := by
  obtain ⟨i0, hi, hz0, hz1, hz2⟩ := info_parts info23
  go_enter Try.func48, Try.ntmps48
  go_wp2
  go_loopw [5, 6] (fun v i w' => ∃ (acc : List Rec) (k f : Nat), i = .int .i64 k ∧ k ≤ s.size ∧ acc.length * 8 ≤ k ∧ s.size - k < f ∧ decL s = acc ++ (dec f s k).1 ∧ (decN s, decE s) = (dec f s k).2 ∧ w'.ownsRow w.heap.size 23 3 v acc.length (rowOf acc) ∧ Below w.heap.size w w') (fun _ i _ => s.size - (intOf i).toNat)
  case atStart => exact ⟨[], 0, s.size + 1, rfl, Nat.zero_le _, by simp, by omega, rfl, rfl, World.ownsRow_nil _ _ _ _, Below.refl _ _⟩
  case round =>
    obtain ⟨acc, k, f, rfl, hk, hlen, hf, hL, hN, hown, hbel⟩ := hrel
    have HL : Hid _ := hL
    have HN : Hid _ := hN
    clear hL hN
    have hbase := hbel.size
    by_cases hlt : k < s.size
    · have hls := left_size s k
      rcases code_cases (left s k) with hc | hc | hc
      · have hv : firstV (s.extract k s.size) = .tuple #[nilRec, .int .i64 0, .int .i64 0] := by simp [firstV, show code (s.extract k s.size) = 0 from hc]
        have HC : Hid _ := hc
        clear hc hls
        unfold nilRec at hv
        go_wp2_with fail
        refine (first_any (s.extract k s.size) _ (by rw [ByteArray.size_extract]; omega)).mono ?_
        rintro e w1 ⟨rfl, hb⟩
        rw [hv]
        clear hv
        go_wp2
        go_ret3
        have hg : wr.grownBy w1 none := ⟨hb.os, hb.tape, hb.output, hb.size, fun b hb' _ => hb.block b hb'⟩
        have hd := dec_zero (f := f) HC.out
        have hL := HL.out
        have hN := HN.out
        rw [hd] at hL hN
        simp only [List.append_nil, Prod.mk.injEq] at hL hN
        refine ⟨u5, by rw [hN.1, hN.2]; rfl, ?_, ?_⟩
        · rw [hL]
          exact (hown.kept hg (by cases hv : u5.ownBlock <;> simp)).alloc _
        · exact (hbel.trans (hb.mono hbase)).alloc (by have := hb.size; omega) _
      · have hv : firstV (s.extract k s.size) = .tuple #[nilRec, .int .i64 0, .int .i64 7] := by simp [firstV, show code (s.extract k s.size) = 1 from hc]
        have HC : Hid _ := hc
        clear hc hls
        unfold nilRec at hv
        go_wp2_with fail
        refine (first_any (s.extract k s.size) _ (by rw [ByteArray.size_extract]; omega)).mono ?_
        rintro e w1 ⟨rfl, hb⟩
        rw [hv]
        clear hv
        go_wp2
        go_ret3
        have hg : wr.grownBy w1 none := ⟨hb.os, hb.tape, hb.output, hb.size, fun b hb' _ => hb.block b hb'⟩
        obtain ⟨f', rfl⟩ : ∃ f', f = f' + 1 := ⟨f - 1, by omega⟩
        have hd := dec_one (f := f') HC.out
        have hL := HL.out
        have hN := HN.out
        rw [hd] at hL hN
        simp only [List.append_nil, Prod.mk.injEq] at hL hN
        refine ⟨u5, by rw [hN.1, hN.2]; rfl, ?_, ?_⟩
        · rw [hL]
          exact (hown.kept hg (by cases hv : u5.ownBlock <;> simp)).alloc _
        · exact (hbel.trans (hb.mono hbase)).alloc (by have := hb.size; omega) _
      · have hv : firstV (s.extract k s.size) = .tuple #[.agg #[.int .i64 (recT (left s k)).1, .int .i64 (recT (left s k)).2.1, .string (recT (left s k)).2.2], .int .i64 (sizeT (left s k)), .int .i64 0] := by simp [firstV, show code (s.extract k s.size) = 2 from hc, left]
        obtain ⟨q1, q2, -, -, -⟩ := code_two hc
        rw [hls] at q2
        have HC : Hid _ := hc
        clear hc hls
        have hne : ((sizeT (left s k) : Int) == 0) = false := by simp; omega
        generalize hr : recT (left s k) = r at hv
        have HR : Hid _ := hr
        generalize hsz : sizeT (left s k) = z at hv hne q1 q2
        have HZ : Hid _ := hsz
        clear hr hsz
        go_wp2_with fail
        refine (first_any (s.extract k s.size) _ (by rw [ByteArray.size_extract]; omega)).mono ?_
        rintro e w1 ⟨rfl, hb⟩
        rw [hv]
        clear hv
        have hg : wr.grownBy w1 none := ⟨hb.os, hb.tape, hb.output, hb.size, fun b hb' _ => hb.block b hb'⟩
        have hown1 := hown.kept hg (by cases hv : u5.ownBlock <;> simp)
        have hsz1 := hb.size
        have hbel1 : Below w.heap.size w w1 := hbel.trans (hb.mono hbase)
        clear hg hown hbel hb
        go_wp2_with (at_builtin; refine wpList_append_own _ rfl _ _ 32 rfl w.heap.size 23 i0 (.agg #[.int .i64 0, .int .i64 0, .string ⟨#[]⟩]) 3 32 Try.underlying32 hi hz0 hz1 hz2 rfl (by omega) u5 acc.length (rowOf acc) rfl ?hown ⟨w1.heap.size + 1, 0, none⟩ 1 1 (rcells r) rfl rfl ?hnews ?h1 ?h63 ?hbytes ?hbase ?_)
        case hown => exact (hown1.alloc _).alloc _
        case hnews => exact news_rec _ _ (by simp) r _
        case h1 => exact one_rec r
        case h63 => unfold maxLen; omega
        case hbytes => omega
        case hbase => simp; omega
        intro v' w2 hown2 hgrow _
        go_wp2
        obtain ⟨f', rfl⟩ : ∃ f', f = f' + 1 := ⟨f - 1, by omega⟩
        have hd := dec_two (f := f') HC.out
        rw [HR.out, HZ.out] at hd
        have hL := HL.out
        have hN := HN.out
        rw [hd] at hL hN
        refine ⟨⟨acc ++ [r], k + z, f', by go_num, by omega, by simp; omega, by omega, by simpa using hL, hN, ?_, ?_⟩, by simp [intOf]; omega⟩
        · rw [rowOf_append, rowOf_one]; simpa using hown2
        · refine ((hbel1.alloc (by omega) _).alloc (by simp; omega) _).grown hgrow (by simp; omega) ?_
          intro b hbk
          exact (hown1.lt b hbk).1
    · go_wp2
      go_ret3
      have hd := dec_zero (f := f) (code_short (s := s) (i := k) (by omega))
      have hL := HL.out
      have hN := HN.out
      rw [hd] at hL hN
      simp only [List.append_nil, Prod.mk.injEq] at hL hN
      refine ⟨u5, by rw [hN.1, hN.2]; rfl, ?_, hbel⟩
      rw [hL]; exact hown

set_option maxRecDepth 100000 in
set_option maxHeartbeats 400000 in
theorem fDecode_any (s : ByteArray) (w : World) (hmax : (s.size : Int) ≤ 1000000000000) :
    Calls Try.prog 17 #[.string s] w fun r w' => ∃ v, r = .returned (.tuple #[v, .int .i64 (decN s), .int .i64 (decE s)]) ∧ w'.ownsRow w.heap.size 23 3 v (decL s).length (rowOf (decL s)) ∧ Below w.heap.size w w' := by
  go_enter Try.func17, Try.ntmps17
  go_wp2_with fail
  refine (decode_any s _ hmax).mono ?_
  rintro e w' ⟨v, rfl, hown, hb⟩
  go_wp2
  go_ret3
  exact ⟨v, rfl, hown, hb⟩

end Go.Proofs.Ytlafkpaljibonaa
