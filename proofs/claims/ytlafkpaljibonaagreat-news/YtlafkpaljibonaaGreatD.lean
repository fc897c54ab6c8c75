import Derived.Test.YtlafkpaljibonaaGreatC
namespace Go.Proofs.YtlafkpaljibonaaGreat
open Go.RowKit

theorem bcell {W w1 : World} (hb : Below W.heap.size W w1) : (∀ b o, b < W.heap.size → w1.cell? ⟨b, o, none⟩ = W.cell? ⟨b, o, none⟩) ∧ (∀ b o, b < W.heap.size → w1.frozen? ⟨b, o, none⟩ = W.frozen? ⟨b, o, none⟩) :=
  ⟨fun b o h => hb.cell (p := ⟨b, o, none⟩) h, fun b o h => hb.frozen (p := ⟨b, o, none⟩) h⟩

/-- A cell behind one new block and what a callee did above it. -/
theorem keep_cell {W w2 : World} {o : Obj} (hb : Below (W.alloc o).heap.size (W.alloc o) w2) {a : Addr} {v : Value} (h : W.cell? a = some v) : w2.cell? a = some v := by
  have hlt := World.block_lt_of_cell? W a h
  rw [hb.cell (by simp; omega), World.cell?_alloc_lt _ _ _ hlt, h]
theorem keep_new {W w2 : World} {cs : Array Value} {T : TypeId} (hb : Below (W.alloc (.cells cs T)).heap.size (W.alloc (.cells cs T)) w2) (j : Nat) : w2.cell? ⟨W.heap.size, j, none⟩ = cs[j]? ∧ w2.frozen? ⟨W.heap.size, j, none⟩ = false := by
  refine ⟨?_, ?_⟩
  · rw [hb.cell (by simp)]; exact World.cell?_alloc_at _ _ _ _ rfl
  · rw [hb.frozen (by simp)]; exact World.frozen?_alloc_at _ _ _ _ rfl
theorem keep_frozen {W w2 : World} {o : Obj} (hb : Below (W.alloc o).heap.size (W.alloc o) w2) {a : Addr} (hlt : a.block < W.heap.size) (h : W.frozen? a = false) : w2.frozen? a = false := by
  rw [hb.frozen (by simp; omega), World.frozen?_alloc_old _ _ _ (by omega), h]

def badB (m k i n p z : Int) : Bool := m != 1 || decide (7 < p) || z != 0 || !allowedB k i n

set_option maxRecDepth 100000 in
set_option maxHeartbeats 400000 in
theorem bad_any (m k i n p z : Int) (w : World) :
    Calls Tryz.prog 124 #[.agg #[.int .i64 m, .int .i64 k, .int .i64 i, .int .i64 n, .int .i64 p, .int .i64 z]] w fun r w' => r = .returned (.bool (badB m k i n p z)) ∧ Below w.heap.size w w' := by
  unfold badB
  cases h1 : m != 1 <;> by_cases h2 : 7 < p <;> cases h3 : z != 0
  all_goals
    go_enter Tryz.func124, Tryz.ntmps124
    go_wp2_with (go_at_call 126; refine (allowed_any _ _ _ _).mono ?_; rintro e w' ⟨rfl, rfl⟩)
    go_ret
    exact ⟨by simp [*] <;> omega, (Below.refl _ _).alloc (Nat.le_refl _) _⟩

/-- What the first eight bytes say. -/
def hKind (t : ByteArray) : Int := byt t 1
def hId (t : ByteArray) : Int := byt t 2 * 256 + byt t 3
def hLen (t : ByteArray) : Int := byt t 4 * 256 + byt t 5
def hPad (t : ByteArray) : Int := byt t 6
def badT (t : ByteArray) : Bool := badB (byt t 0) (hKind t) (hId t) (hLen t) (hPad t) (byt t 7)

theorem hd_bd (t : ByteArray) : 0 ≤ hKind t ∧ hKind t ≤ 255 ∧ 0 ≤ hId t ∧ hId t ≤ 65535 ∧ 0 ≤ hLen t ∧ hLen t ≤ 65535 ∧ 0 ≤ hPad t ∧ hPad t ≤ 255 := by
  have b1 := byt_bd t 1
  have b2 := byt_bd t 2
  have b3 := byt_bd t 3
  have b4 := byt_bd t 4
  have b5 := byt_bd t 5
  have b6 := byt_bd t 6
  simp only [hKind, hId, hLen, hPad]; omega

theorem readHead_yes' (t : ByteArray) (w : World) (h : 8 ≤ (t.size : Int)) (hmax : (t.size : Int) ≤ 1000000000000) :
    Calls Tryz.prog 115 #[.string t] w fun r w' => r = .returned (.tuple #[.agg #[.int .i64 (byt t 0), .int .i64 (hKind t), .int .i64 (hId t), .int .i64 (hLen t), .int .i64 (hPad t), .int .i64 (byt t 7)], .bool true]) ∧ Below w.heap.size w w' :=
  readHead_yes t w h hmax

def nilRec : Value := .agg #[.int .i64 0, .int .i64 0, .string ⟨#[]⟩]

set_option maxRecDepth 100000 in
set_option maxHeartbeats 1000000 in
theorem first_no (t : ByteArray) (w : World) (h : (t.size : Int) < 8) :
    Calls Tryz.prog 117 #[.string t] w fun r w' => r = .returned (.tuple #[nilRec, .int .i64 0, .int .i64 0]) ∧ Below w.heap.size w w' := by
  go_enter Tryz.func117, Tryz.ntmps117
  go_wp2_with fail
  refine (readHead_no t _ h).mono ?_
  rintro e w1 ⟨rfl, hb⟩
  obtain ⟨c0, f0⟩ := keep_new hb 0
  obtain ⟨c1, f1⟩ := keep_new hb 1
  obtain ⟨c2, f2⟩ := keep_new hb 2
  simp only [List.getElem?_toArray, List.getElem?_cons_zero, List.getElem?_cons_succ] at c0 c1 c2
  have hz : w.heap.size < w1.heap.size := by have := hb.size; simp at this; omega
  have h0 : Below w.heap.size w w1 := ((Below.refl _ _).alloc (Nat.le_refl _) _).trans (hb.mono (by simp))
  clear hb
  go_wp2
  refine bodyPost_ret (v := .tuple #[nilRec, .int .i64 0, .int .i64 0]) (by simp [results, Tryz.results117, go_sem, c0, c1, c2, hz, nilRec]) rfl ⟨rfl, ?_⟩
  repeat (first | exact h0 | refine Below.setCell ?_ (by simp) _ | refine Below.alloc ?_ (by simp; omega) _ | refine Below.drew ?_)

set_option maxRecDepth 100000 in
set_option maxHeartbeats 1000000 in
theorem first_bad (t : ByteArray) (w : World) (h : 8 ≤ (t.size : Int)) (hmax : (t.size : Int) ≤ 1000000000000) (hbad : badT t = true) :
    Calls Tryz.prog 117 #[.string t] w fun r w' => r = .returned (.tuple #[nilRec, .int .i64 0, .int .i64 7]) ∧ Below w.heap.size w w' := by
  go_enter Tryz.func117, Tryz.ntmps117
  go_wp2_with fail
  refine (readHead_yes' t _ h hmax).mono ?_
  rintro e w1 ⟨rfl, hb⟩
  obtain ⟨c0, f0⟩ := keep_new hb 0
  obtain ⟨c1, f1⟩ := keep_new hb 1
  obtain ⟨c2, f2⟩ := keep_new hb 2
  simp only [List.getElem?_toArray, List.getElem?_cons_zero, List.getElem?_cons_succ] at c0 c1 c2
  have hz : w.heap.size < w1.heap.size := by have := hb.size; simp at this; omega
  have h0 : Below w.heap.size w w1 := ((Below.refl _ _).alloc (Nat.le_refl _) _).trans (hb.mono (by simp))
  clear hb
  go_wp2_with fail
  refine (bad_any _ _ _ _ _ _ _).mono ?_
  rintro e w2 ⟨rfl, hb2⟩
  rw [show badB (byt t 0) (hKind t) (hId t) (hLen t) (hPad t) (byt t 7) = true from hbad]
  have d0 := keep_cell hb2 c0
  have d1 := keep_cell hb2 c1
  have d2 := keep_cell hb2 c2
  have k0 := keep_frozen hb2 hz f0
  have k1 := keep_frozen hb2 hz f1
  have k2 := keep_frozen hb2 hz f2
  obtain ⟨e1, -⟩ := keep_new hb2 1
  obtain ⟨e2, -⟩ := keep_new hb2 2
  obtain ⟨e3, -⟩ := keep_new hb2 3
  obtain ⟨e4, -⟩ := keep_new hb2 4
  simp only [List.getElem?_toArray, List.getElem?_cons_zero, List.getElem?_cons_succ] at e1 e2 e3 e4
  have hz2 : w1.heap.size < w2.heap.size := by have := hb2.size; simp at this; omega
  have hz3 : w.heap.size < w2.heap.size := by omega
  have h1 : Below w.heap.size w w2 := (h0.alloc (by omega) _).trans (hb2.mono (by simp; omega))
  clear hb2 c0 c1 c2 f0 f1 f2
  go_wp2
  refine bodyPost_ret (v := .tuple #[nilRec, .int .i64 0, .int .i64 7]) (by simp [results, Tryz.results117, go_sem, d0, d1, d2, nilRec]) rfl ⟨rfl, ?_⟩
  repeat (first | exact h1 | refine Below.setCell ?_ (by simp) _ | refine Below.alloc ?_ (by simp; omega) _ | refine Below.drew ?_)

set_option maxRecDepth 100000 in
set_option maxHeartbeats 1000000 in
theorem first_part (t : ByteArray) (w : World) (h : 8 ≤ (t.size : Int)) (hmax : (t.size : Int) ≤ 1000000000000) (hbad : badT t = false) (hsz : (t.size : Int) < 8 + hLen t + hPad t) :
    Calls Tryz.prog 117 #[.string t] w fun r w' => r = .returned (.tuple #[nilRec, .int .i64 0, .int .i64 0]) ∧ Below w.heap.size w w' := by
  have hd := hd_bd t
  go_enter Tryz.func117, Tryz.ntmps117
  go_wp2_with fail
  refine (readHead_yes' t _ h hmax).mono ?_
  rintro e w1 ⟨rfl, hb⟩
  obtain ⟨c0, f0⟩ := keep_new hb 0
  obtain ⟨c1, f1⟩ := keep_new hb 1
  obtain ⟨c2, f2⟩ := keep_new hb 2
  simp only [List.getElem?_toArray, List.getElem?_cons_zero, List.getElem?_cons_succ] at c0 c1 c2
  have hz : w.heap.size < w1.heap.size := by have := hb.size; simp at this; omega
  have h0 : Below w.heap.size w w1 := ((Below.refl _ _).alloc (Nat.le_refl _) _).trans (hb.mono (by simp))
  clear hb
  go_wp2_with fail
  refine (bad_any _ _ _ _ _ _ _).mono ?_
  rintro e w2 ⟨rfl, hb2⟩
  rw [show badB (byt t 0) (hKind t) (hId t) (hLen t) (hPad t) (byt t 7) = false from hbad]
  have d0 := keep_cell hb2 c0
  have d1 := keep_cell hb2 c1
  have d2 := keep_cell hb2 c2
  have k0 := keep_frozen hb2 hz f0
  have k1 := keep_frozen hb2 hz f1
  have k2 := keep_frozen hb2 hz f2
  obtain ⟨e1, -⟩ := keep_new hb2 1
  obtain ⟨e2, -⟩ := keep_new hb2 2
  obtain ⟨e3, -⟩ := keep_new hb2 3
  obtain ⟨e4, -⟩ := keep_new hb2 4
  simp only [List.getElem?_toArray, List.getElem?_cons_zero, List.getElem?_cons_succ] at e1 e2 e3 e4
  have hz2 : w1.heap.size < w2.heap.size := by have := hb2.size; simp at this; omega
  have hz3 : w.heap.size < w2.heap.size := by omega
  have h1 : Below w.heap.size w w2 := (h0.alloc (by omega) _).trans (hb2.mono (by simp; omega))
  clear hb2 c0 c1 c2 f0 f1 f2
  go_wp2
  refine bodyPost_ret (v := .tuple #[nilRec, .int .i64 0, .int .i64 0]) (by simp [results, Tryz.results117, go_sem, d0, d1, d2, nilRec]) rfl ⟨rfl, ?_⟩
  repeat (first | exact h1 | refine Below.setCell ?_ (by simp) _ | refine Below.alloc ?_ (by simp; omega) _ | refine Below.drew ?_)

set_option maxRecDepth 100000 in
set_option maxHeartbeats 1000000 in
theorem first_yes (t : ByteArray) (w : World) (h : 8 ≤ (t.size : Int)) (hmax : (t.size : Int) ≤ 1000000000000) (hbad : badT t = false) (hsz : 8 + hLen t + hPad t ≤ (t.size : Int)) :
    Calls Tryz.prog 117 #[.string t] w fun r w' => r = .returned (.tuple #[.agg #[.int .i64 (hKind t), .int .i64 (hId t), .string (t.extract 8 (8 + hLen t).toNat)], .int .i64 (8 + hLen t + hPad t), .int .i64 0]) ∧ Below w.heap.size w w' := by
  have hd := hd_bd t
  go_enter Tryz.func117, Tryz.ntmps117
  go_wp2_with fail
  refine (readHead_yes' t _ h hmax).mono ?_
  rintro e w1 ⟨rfl, hb⟩
  obtain ⟨c0, f0⟩ := keep_new hb 0
  obtain ⟨c1, f1⟩ := keep_new hb 1
  obtain ⟨c2, f2⟩ := keep_new hb 2
  simp only [List.getElem?_toArray, List.getElem?_cons_zero, List.getElem?_cons_succ] at c0 c1 c2
  have hz : w.heap.size < w1.heap.size := by have := hb.size; simp at this; omega
  have h0 : Below w.heap.size w w1 := ((Below.refl _ _).alloc (Nat.le_refl _) _).trans (hb.mono (by simp))
  clear hb
  go_wp2_with fail
  refine (bad_any _ _ _ _ _ _ _).mono ?_
  rintro e w2 ⟨rfl, hb2⟩
  rw [show badB (byt t 0) (hKind t) (hId t) (hLen t) (hPad t) (byt t 7) = false from hbad]
  have d0 := keep_cell hb2 c0
  have d1 := keep_cell hb2 c1
  have d2 := keep_cell hb2 c2
  have k0 := keep_frozen hb2 hz f0
  have k1 := keep_frozen hb2 hz f1
  have k2 := keep_frozen hb2 hz f2
  obtain ⟨e1, -⟩ := keep_new hb2 1
  obtain ⟨e2, -⟩ := keep_new hb2 2
  obtain ⟨e3, -⟩ := keep_new hb2 3
  obtain ⟨e4, -⟩ := keep_new hb2 4
  simp only [List.getElem?_toArray, List.getElem?_cons_zero, List.getElem?_cons_succ] at e1 e2 e3 e4
  have hz2 : w1.heap.size < w2.heap.size := by have := hb2.size; simp at this; omega
  have hz3 : w.heap.size < w2.heap.size := by omega
  have h1 : Below w.heap.size w w2 := (h0.alloc (by omega) _).trans (hb2.mono (by simp; omega))
  clear hb2 c0 c1 c2 f0 f1 f2
  have hne : w.heap.size ≠ w1.heap.size := by omega
  have hs : ∀ wx : World, (Instr.slice 9 (.string t) (some (.int .i64 8)) (some (.int .i64 (8 + hLen t))) none).run Tryz.prog wx = .ok (.string (t.extract 8 (8 + hLen t).toNat)) wx := fun wx =>
    run_slice_string (P := Tryz.prog) wx 9 t .i64 .i64 8 (8 + hLen t) Tryz.underlying9 (by omega) (by omega) (by omega)
  go_wp2
  go_region_held3 (fun w' => w'.cell? ⟨w1.heap.size, 1, none⟩ = some (.int .i64 (hKind t)) ∧ w'.cell? ⟨w1.heap.size, 2, none⟩ = some (.int .i64 (hId t))) (go_keep) (fail)
  go_wp2
  refine bodyPost_ret (v := .tuple #[.agg #[.int .i64 (hKind t), .int .i64 (hId t), .string (t.extract 8 (8 + hLen t).toNat)], .int .i64 (8 + hLen t + hPad t), .int .i64 0]) (by simp [results, Tryz.results117, go_sem, d0, d1, d2]) rfl ⟨rfl, ?_⟩
  repeat (first | exact h1 | refine Below.setCell ?_ (by simp) _ | refine Below.alloc ?_ (by simp; omega) _ | refine Below.drew ?_)
end Go.Proofs.YtlafkpaljibonaaGreat
