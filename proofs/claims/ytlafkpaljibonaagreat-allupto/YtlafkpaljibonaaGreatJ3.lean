import Derived.Test.YtlafkpaljibonaaGreatJ2
namespace Go.Proofs.YtlafkpaljibonaaGreat
open Go.RowKit

theorem bcell {W w1 : World} (hb : Below W.heap.size W w1) : (∀ b o, b < W.heap.size → w1.cell? ⟨b, o, none⟩ = W.cell? ⟨b, o, none⟩) ∧ (∀ b o, b < W.heap.size → w1.frozen? ⟨b, o, none⟩ = W.frozen? ⟨b, o, none⟩) :=
  ⟨fun b o h => hb.cell (p := ⟨b, o, none⟩) h, fun b o h => hb.frozen (p := ⟨b, o, none⟩) h⟩

/-- A cell behind one new block and what a callee did above it. -/
theorem keep_cell {W w2 : World} {o : Obj} (hb : Below (W.alloc o).heap.size (W.alloc o) w2) {a : Addr} {v : Value} (h : W.cell? a = some v) : w2.cell? a = some v := by
  have hlt := World.block_lt_of_cell? W a h
  rw [hb.cell (by simp; omega), World.cell?_alloc_lt _ _ _ hlt, h]
theorem keep_new {W w2 : World} {cs : Array Value} {T : TypeId} (hb : Below (W.alloc (.cells cs T)).heap.size (W.alloc (.cells cs T)) w2) (j : Nat) : w2.cell? ⟨W.heap.size, j, none⟩ = cs[j]? ∧ w2.frozen? ⟨W.heap.size, j, none⟩ = false := by
  refine ⟨?_, ?_⟩
  · rw [hb.cell (by simp)]; exact World.cell?_alloc_at _ _ _ _ rfl
  · rw [hb.frozen (by simp)]; exact World.frozen?_alloc_at _ _ _ _ rfl
theorem keep_frozen {W w2 : World} {o : Obj} (hb : Below (W.alloc o).heap.size (W.alloc o) w2) {a : Addr} (hlt : a.block < W.heap.size) (h : W.frozen? a = false) : w2.frozen? a = false := by
  rw [hb.frozen (by simp; omega), World.frozen?_alloc_old _ _ _ (by omega), h]

def badB (m k i n p z : Int) : Bool := m != 1 || decide (7 < p) || z != 0 || !allowedB k i n

set_option maxRecDepth 100000 in
set_option maxHeartbeats 400000 in
theorem bad_any (m k i n p z : Int) (w : World) :
    Calls Tryz.prog 124 #[.agg #[.int .i64 m, .int .i64 k, .int .i64 i, .int .i64 n, .int .i64 p, .int .i64 z]] w fun r w' => r = .returned (.bool (badB m k i n p z)) ∧ Below w.heap.size w w' := by
  unfold badB
  cases h1 : m != 1 <;> by_cases h2 : 7 < p <;> cases h3 : z != 0
  all_goals
    go_enter Tryz.func124, Tryz.ntmps124
    go_wp2_with (go_at_call 126; refine (allowed_any _ _ _ _).mono ?_; rintro e w' ⟨rfl, rfl⟩)
    go_ret
    exact ⟨by simp [*] <;> omega, (Below.refl _ _).alloc (Nat.le_refl _) _⟩

/-- What the first eight bytes say. -/
def hKind (t : ByteArray) : Int := byt t 1
def hId (t : ByteArray) : Int := byt t 2 * 256 + byt t 3
def hLen (t : ByteArray) : Int := byt t 4 * 256 + byt t 5
def hPad (t : ByteArray) : Int := byt t 6
def badT (t : ByteArray) : Bool := badB (byt t 0) (hKind t) (hId t) (hLen t) (hPad t) (byt t 7)

theorem hd_bd (t : ByteArray) : 0 ≤ hKind t ∧ hKind t ≤ 255 ∧ 0 ≤ hId t ∧ hId t ≤ 65535 ∧ 0 ≤ hLen t ∧ hLen t ≤ 65535 ∧ 0 ≤ hPad t ∧ hPad t ≤ 255 := by
  have b1 := byt_bd t 1
  have b2 := byt_bd t 2
  have b3 := byt_bd t 3
  have b4 := byt_bd t 4
  have b5 := byt_bd t 5
  have b6 := byt_bd t 6
  simp only [hKind, hId, hLen, hPad]; omega

theorem readHead_yes' (t : ByteArray) (w : World) (h : 8 ≤ (t.size : Int)) (hmax : (t.size : Int) ≤ 1000000000000) :
    Calls Tryz.prog 115 #[.string t] w fun r w' => r = .returned (.tuple #[.agg #[.int .i64 (byt t 0), .int .i64 (hKind t), .int .i64 (hId t), .int .i64 (hLen t), .int .i64 (hPad t), .int .i64 (byt t 7)], .bool true]) ∧ Below w.heap.size w w' :=
  readHead_yes t w h hmax

def nilRec : Value := .agg #[.int .i64 0, .int .i64 0, .string ⟨#[]⟩]

set_option maxRecDepth 100000 in
set_option maxHeartbeats 1000000 in
theorem first_no (t : ByteArray) (w : World) (h : (t.size : Int) < 8) :
    Calls Tryz.prog 117 #[.string t] w fun r w' => r = .returned (.tuple #[nilRec, .int .i64 0, .int .i64 0]) ∧ Below w.heap.size w w' := by
  go_enter Tryz.func117, Tryz.ntmps117
  go_wp2_with fail
  refine (readHead_no t _ h).mono ?_
  rintro e w1 ⟨rfl, hb⟩
  obtain ⟨c0, f0⟩ := keep_new hb 0
  obtain ⟨c1, f1⟩ := keep_new hb 1
  obtain ⟨c2, f2⟩ := keep_new hb 2
  simp only [List.getElem?_toArray, List.getElem?_cons_zero, List.getElem?_cons_succ] at c0 c1 c2
  have hz : w.heap.size < w1.heap.size := by have := hb.size; simp at this; omega
  have h0 : Below w.heap.size w w1 := ((Below.refl _ _).alloc (Nat.le_refl _) _).trans (hb.mono (by simp))
  clear hb
  go_wp2
  refine bodyPost_ret (v := .tuple #[nilRec, .int .i64 0, .int .i64 0]) (by simp [results, Tryz.results117, go_sem, c0, c1, c2, hz, nilRec]) rfl ⟨rfl, ?_⟩
  repeat (first | exact h0 | refine Below.setCell ?_ (by simp) _ | refine Below.alloc ?_ (by simp; omega) _ | refine Below.drew ?_)

set_option maxRecDepth 100000 in
set_option maxHeartbeats 1000000 in
theorem first_bad (t : ByteArray) (w : World) (h : 8 ≤ (t.size : Int)) (hmax : (t.size : Int) ≤ 1000000000000) (hbad : badT t = true) :
    Calls Tryz.prog 117 #[.string t] w fun r w' => r = .returned (.tuple #[nilRec, .int .i64 0, .int .i64 7]) ∧ Below w.heap.size w w' := by
  go_enter Tryz.func117, Tryz.ntmps117
  go_wp2_with fail
  refine (readHead_yes' t _ h hmax).mono ?_
  rintro e w1 ⟨rfl, hb⟩
  obtain ⟨c0, f0⟩ := keep_new hb 0
  obtain ⟨c1, f1⟩ := keep_new hb 1
  obtain ⟨c2, f2⟩ := keep_new hb 2
  simp only [List.getElem?_toArray, List.getElem?_cons_zero, List.getElem?_cons_succ] at c0 c1 c2
  have hz : w.heap.size < w1.heap.size := by have := hb.size; simp at this; omega
  have h0 : Below w.heap.size w w1 := ((Below.refl _ _).alloc (Nat.le_refl _) _).trans (hb.mono (by simp))
  clear hb
  go_wp2_with fail
  refine (bad_any _ _ _ _ _ _ _).mono ?_
  rintro e w2 ⟨rfl, hb2⟩
  rw [show badB (byt t 0) (hKind t) (hId t) (hLen t) (hPad t) (byt t 7) = true from hbad]
  have d0 := keep_cell hb2 c0
  have d1 := keep_cell hb2 c1
  have d2 := keep_cell hb2 c2
  have k0 := keep_frozen hb2 hz f0
  have k1 := keep_frozen hb2 hz f1
  have k2 := keep_frozen hb2 hz f2
  obtain ⟨e1, -⟩ := keep_new hb2 1
  obtain ⟨e2, -⟩ := keep_new hb2 2
  obtain ⟨e3, -⟩ := keep_new hb2 3
  obtain ⟨e4, -⟩ := keep_new hb2 4
  simp only [List.getElem?_toArray, List.getElem?_cons_zero, List.getElem?_cons_succ] at e1 e2 e3 e4
  have hz2 : w1.heap.size < w2.heap.size := by have := hb2.size; simp at this; omega
  have hz3 : w.heap.size < w2.heap.size := by omega
  have h1 : Below w.heap.size w w2 := (h0.alloc (by omega) _).trans (hb2.mono (by simp; omega))
  clear hb2 c0 c1 c2 f0 f1 f2
  go_wp2
  refine bodyPost_ret (v := .tuple #[nilRec, .int .i64 0, .int .i64 7]) (by simp [results, Tryz.results117, go_sem, d0, d1, d2, nilRec]) rfl ⟨rfl, ?_⟩
  repeat (first | exact h1 | refine Below.setCell ?_ (by simp) _ | refine Below.alloc ?_ (by simp; omega) _ | refine Below.drew ?_)

set_option maxRecDepth 100000 in
set_option maxHeartbeats 1000000 in
theorem first_part (t : ByteArray) (w : World) (h : 8 ≤ (t.size : Int)) (hmax : (t.size : Int) ≤ 1000000000000) (hbad : badT t = false) (hsz : (t.size : Int) < 8 + hLen t + hPad t) :
    Calls Tryz.prog 117 #[.string t] w fun r w' => r = .returned (.tuple #[nilRec, .int .i64 0, .int .i64 0]) ∧ Below w.heap.size w w' := by
  have hd := hd_bd t
  go_enter Tryz.func117, Tryz.ntmps117
  go_wp2_with fail
  refine (readHead_yes' t _ h hmax).mono ?_
  rintro e w1 ⟨rfl, hb⟩
  obtain ⟨c0, f0⟩ := keep_new hb 0
  obtain ⟨c1, f1⟩ := keep_new hb 1
  obtain ⟨c2, f2⟩ := keep_new hb 2
  simp only [List.getElem?_toArray, List.getElem?_cons_zero, List.getElem?_cons_succ] at c0 c1 c2
  have hz : w.heap.size < w1.heap.size := by have := hb.size; simp at this; omega
  have h0 : Below w.heap.size w w1 := ((Below.refl _ _).alloc (Nat.le_refl _) _).trans (hb.mono (by simp))
  clear hb
  go_wp2_with fail
  refine (bad_any _ _ _ _ _ _ _).mono ?_
  rintro e w2 ⟨rfl, hb2⟩
  rw [show badB (byt t 0) (hKind t) (hId t) (hLen t) (hPad t) (byt t 7) = false from hbad]
  have d0 := keep_cell hb2 c0
  have d1 := keep_cell hb2 c1
  have d2 := keep_cell hb2 c2
  have k0 := keep_frozen hb2 hz f0
  have k1 := keep_frozen hb2 hz f1
  have k2 := keep_frozen hb2 hz f2
  obtain ⟨e1, -⟩ := keep_new hb2 1
  obtain ⟨e2, -⟩ := keep_new hb2 2
  obtain ⟨e3, -⟩ := keep_new hb2 3
  obtain ⟨e4, -⟩ := keep_new hb2 4
  simp only [List.getElem?_toArray, List.getElem?_cons_zero, List.getElem?_cons_succ] at e1 e2 e3 e4
  have hz2 : w1.heap.size < w2.heap.size := by have := hb2.size; simp at this; omega
  have hz3 : w.heap.size < w2.heap.size := by omega
  have h1 : Below w.heap.size w w2 := (h0.alloc (by omega) _).trans (hb2.mono (by simp; omega))
  clear hb2 c0 c1 c2 f0 f1 f2
  go_wp2
  refine bodyPost_ret (v := .tuple #[nilRec, .int .i64 0, .int .i64 0]) (by simp [results, Tryz.results117, go_sem, d0, d1, d2, nilRec]) rfl ⟨rfl, ?_⟩
  repeat (first | exact h1 | refine Below.setCell ?_ (by simp) _ | refine Below.alloc ?_ (by simp; omega) _ | refine Below.drew ?_)

set_option maxRecDepth 100000 in
set_option maxHeartbeats 1000000 in
theorem first_yes (t : ByteArray) (w : World) (h : 8 ≤ (t.size : Int)) (hmax : (t.size : Int) ≤ 1000000000000) (hbad : badT t = false) (hsz : 8 + hLen t + hPad t ≤ (t.size : Int)) :
    Calls Tryz.prog 117 #[.string t] w fun r w' => r = .returned (.tuple #[.agg #[.int .i64 (hKind t), .int .i64 (hId t), .string (t.extract 8 (8 + hLen t).toNat)], .int .i64 (8 + hLen t + hPad t), .int .i64 0]) ∧ Below w.heap.size w w' := by
  have hd := hd_bd t
  go_enter Tryz.func117, Tryz.ntmps117
  go_wp2_with fail
  refine (readHead_yes' t _ h hmax).mono ?_
  rintro e w1 ⟨rfl, hb⟩
  obtain ⟨c0, f0⟩ := keep_new hb 0
  obtain ⟨c1, f1⟩ := keep_new hb 1
  obtain ⟨c2, f2⟩ := keep_new hb 2
  simp only [List.getElem?_toArray, List.getElem?_cons_zero, List.getElem?_cons_succ] at c0 c1 c2
  have hz : w.heap.size < w1.heap.size := by have := hb.size; simp at this; omega
  have h0 : Below w.heap.size w w1 := ((Below.refl _ _).alloc (Nat.le_refl _) _).trans (hb.mono (by simp))
  clear hb
  go_wp2_with fail
  refine (bad_any _ _ _ _ _ _ _).mono ?_
  rintro e w2 ⟨rfl, hb2⟩
  rw [show badB (byt t 0) (hKind t) (hId t) (hLen t) (hPad t) (byt t 7) = false from hbad]
  have d0 := keep_cell hb2 c0
  have d1 := keep_cell hb2 c1
  have d2 := keep_cell hb2 c2
  have k0 := keep_frozen hb2 hz f0
  have k1 := keep_frozen hb2 hz f1
  have k2 := keep_frozen hb2 hz f2
  obtain ⟨e1, -⟩ := keep_new hb2 1
  obtain ⟨e2, -⟩ := keep_new hb2 2
  obtain ⟨e3, -⟩ := keep_new hb2 3
  obtain ⟨e4, -⟩ := keep_new hb2 4
  simp only [List.getElem?_toArray, List.getElem?_cons_zero, List.getElem?_cons_succ] at e1 e2 e3 e4
  have hz2 : w1.heap.size < w2.heap.size := by have := hb2.size; simp at this; omega
  have hz3 : w.heap.size < w2.heap.size := by omega
  have h1 : Below w.heap.size w w2 := (h0.alloc (by omega) _).trans (hb2.mono (by simp; omega))
  clear hb2 c0 c1 c2 f0 f1 f2
  have hne : w.heap.size ≠ w1.heap.size := by omega
  have hs : ∀ wx : World, (Instr.slice 9 (.string t) (some (.int .i64 8)) (some (.int .i64 (8 + hLen t))) none).run Tryz.prog wx = .ok (.string (t.extract 8 (8 + hLen t).toNat)) wx := fun wx =>
    run_slice_string (P := Tryz.prog) wx 9 t .i64 .i64 8 (8 + hLen t) Tryz.underlying9 (by omega) (by omega) (by omega)
  go_wp2
  go_region_held3 (fun w' => w'.cell? ⟨w1.heap.size, 1, none⟩ = some (.int .i64 (hKind t)) ∧ w'.cell? ⟨w1.heap.size, 2, none⟩ = some (.int .i64 (hId t))) (go_keep) (fail)
  go_wp2
  refine bodyPost_ret (v := .tuple #[.agg #[.int .i64 (hKind t), .int .i64 (hId t), .string (t.extract 8 (8 + hLen t).toNat)], .int .i64 (8 + hLen t + hPad t), .int .i64 0]) (by simp [results, Tryz.results117, go_sem, d0, d1, d2]) rfl ⟨rfl, ?_⟩
  repeat (first | exact h1 | refine Below.setCell ?_ (by simp) _ | refine Below.alloc ?_ (by simp; omega) _ | refine Below.drew ?_)
end Go.Proofs.YtlafkpaljibonaaGreat

namespace Go.Proofs.YtlafkpaljibonaaGreat
open Go.RowKit

/-- A record as the proofs have it: kind, Id, Content. -/
abbrev Rec := Int × Int × ByteArray

def rcells (r : Rec) : List Value := [.int .i64 r.1, .int .i64 r.2.1, .string r.2.2]
def rowOf (l : List Rec) : List Value := l.flatMap rcells

/-- What stands at the beginning of some bytes: 0: nothing whole; 1: a bad head; 2: a record. -/
def code (t : ByteArray) : Nat :=
  if (t.size : Int) < 8 then 0 else if badT t then 1 else if (t.size : Int) < 8 + hLen t + hPad t then 0 else 2
def recT (t : ByteArray) : Rec := (hKind t, hId t, t.extract 8 (8 + hLen t).toNat)
def sizeT (t : ByteArray) : Nat := (8 + hLen t + hPad t).toNat

/-- What is left of s from a place on. -/
def left (s : ByteArray) (i : Nat) : ByteArray := s.extract i s.size

theorem left_size (s : ByteArray) (i : Nat) : (left s i).size = s.size - i := by
  simp [left, ByteArray.size_extract]

def dec : Nat → ByteArray → Nat → List Rec × Nat × Int
  | 0, _, i => ([], i, 0)
  | f + 1, s, i =>
    if code (left s i) = 0 then ([], i, 0)
    else if code (left s i) = 1 then ([], i, 7)
    else (recT (left s i) :: (dec f s (i + sizeT (left s i))).1, (dec f s (i + sizeT (left s i))).2)

def decL (s : ByteArray) : List Rec := (dec (s.size + 1) s 0).1
def decN (s : ByteArray) : Nat := (dec (s.size + 1) s 0).2.1
def decE (s : ByteArray) : Int := (dec (s.size + 1) s 0).2.2

theorem code_two {t : ByteArray} (h : code t = 2) : 8 ≤ sizeT t ∧ sizeT t ≤ t.size ∧ badT t = false ∧ 8 + hLen t + hPad t ≤ (t.size : Int) ∧ 8 ≤ (t.size : Int) := by
  have hd := hd_bd t
  unfold code at h
  split at h
  · cases h
  · split at h
    · cases h
    · split at h
      · cases h
      · rename_i h1 h2 h3
        refine ⟨by unfold sizeT; omega, by unfold sizeT; omega, by simpa using h2, by omega, by omega⟩

theorem code_cases (t : ByteArray) : code t = 0 ∨ code t = 1 ∨ code t = 2 := by
  unfold code
  split
  · simp
  · split
    · simp
    · split <;> simp

theorem dec_zero {f : Nat} {s : ByteArray} {i : Nat} (h : code (left s i) = 0) : dec f s i = ([], i, 0) := by
  cases f with
  | zero => rfl
  | succ f => simp [dec, h]
theorem dec_one {f : Nat} {s : ByteArray} {i : Nat} (h : code (left s i) = 1) : dec (f + 1) s i = ([], i, 7) := by
  simp [dec, h]
theorem dec_two {f : Nat} {s : ByteArray} {i : Nat} (h : code (left s i) = 2) : dec (f + 1) s i = (recT (left s i) :: (dec f s (i + sizeT (left s i))).1, (dec f s (i + sizeT (left s i))).2) := by
  simp [dec, h]

theorem code_short {s : ByteArray} {i : Nat} (h : s.size - i < 8) : code (left s i) = 0 := by
  unfold code
  rw [if_pos]
  rw [left_size]; omega

/-- 'first' in one row. -/
def firstV (t : ByteArray) : Value :=
  if code t = 2 then .tuple #[.agg #[.int .i64 (recT t).1, .int .i64 (recT t).2.1, .string (recT t).2.2], .int .i64 (sizeT t), .int .i64 0]
  else if code t = 1 then .tuple #[nilRec, .int .i64 0, .int .i64 7] else .tuple #[nilRec, .int .i64 0, .int .i64 0]

theorem first_any (t : ByteArray) (w : World) (hmax : (t.size : Int) ≤ 1000000000000) :
    Calls Tryz.prog 117 #[.string t] w fun r w' => r = .returned (firstV t) ∧ Below w.heap.size w w' := by
  have hd := hd_bd t
  by_cases h1 : (t.size : Int) < 8
  · have : code t = 0 := by simp [code, h1]
    simpa [firstV, this] using first_no t w h1
  · cases h2 : badT t
    · by_cases h3 : (t.size : Int) < 8 + hLen t + hPad t
      · have : code t = 0 := by simp [code, h1, h2, h3]
        simpa [firstV, this] using first_part t w (by omega) hmax h2 h3
      · have : code t = 2 := by simp [code, h1, h2, h3]
        have e : ((sizeT t : Nat) : Int) = 8 + hLen t + hPad t := by unfold sizeT; omega
        simpa [firstV, this, e, recT] using first_yes t w (by omega) hmax h2 (by omega)
    · have : code t = 1 := by simp [code, h1, h2]
      simpa [firstV, this] using first_bad t w (by omega) hmax h2

theorem rowOf_length (l : List Rec) : (rowOf l).length = l.length * 3 := by
  induction l with
  | nil => rfl
  | cons r l ih => simp only [rowOf, List.flatMap_cons, List.length_append, List.length_cons] at ih ⊢; rw [ih]; simp [rcells]; omega

theorem rowOf_append (a b : List Rec) : rowOf (a ++ b) = rowOf a ++ rowOf b := by simp [rowOf]

theorem rowOf_one (r : Rec) : rowOf [r] = rcells r := by simp [rowOf]

theorem rowOf_get (l : List Rec) (k : Nat) (hk : k < l.length) : (rowOf l)[3 * k]? = some (.int .i64 l[k].1) ∧ (rowOf l)[3 * k + 1]? = some (.int .i64 l[k].2.1) ∧ (rowOf l)[3 * k + 2]? = some (.string l[k].2.2) := by
  induction l generalizing k with
  | nil => simp at hk
  | cons r l ih =>
    cases k with
    | zero => simp [rowOf, rcells]
    | succ k =>
      have := ih k (by simpa using hk)
      have e : rowOf (r :: l) = .int .i64 r.1 :: .int .i64 r.2.1 :: .string r.2.2 :: rowOf l := by simp [rowOf, rcells]
      rw [e, show 3 * (k + 1) = 3 * k + 1 + 1 + 1 from by omega, show 3 * k + 1 + 1 + 1 + 1 = 3 * k + 1 + 1 + 1 + 1 from rfl]
      simpa using this

end Go.Proofs.YtlafkpaljibonaaGreat

namespace Go.Proofs.YtlafkpaljibonaaGreat
open Go.RowKit

/-- The document's state, as a plain value. -/
structure RLine where
  op : Bool
  come : ByteArray
  took : Nat
  sent : List Rec

structure RSlot where
  st : Int
  served : Int
  since : Int
  old : Bool
  key : Nat

structure RKey where
  conn : Int
  id : Int
  body : ByteArray
  is : Int

structure RM where
  set : Cfg
  time : Int
  line : Nat → RLine
  slot : Nat → RSlot
  keys : List RKey
  queue : List Nat

def RLine.cells (c : RLine) (v : Value) : List Value := [.bool c.op, .string c.come, .int .i64 c.took, v]
def RSlot.cells (s : RSlot) : List Value := [.int .i64 s.st, .int .i64 s.served, .int .i64 s.since, .bool s.old, .int .i64 s.key]
def RKey.cells (r : RKey) : List Value := [.int .i64 r.conn, .int .i64 r.id, .string r.body, .int .i64 r.is]
def rkeyCells (l : List RKey) : List Value := l.flatMap RKey.cells
def numCells (l : List Nat) : List Value := l.map fun (n : Nat) => Value.int .i64 (n : Int)

def wcells (m : RM) (lv : Nat → Value) (kv qv : Value) : List Value :=
  m.set.cells ++ .int .i64 m.time :: ((m.line 0).cells (lv 0) ++ ((m.line 1).cells (lv 1) ++ ((m.line 2).cells (lv 2) ++ ((m.line 3).cells (lv 3) ++
    ((m.slot 0).cells ++ ((m.slot 1).cells ++ ((m.slot 2).cells ++ ((m.slot 3).cells ++ ((m.slot 4).cells ++ ((m.slot 5).cells ++ [kv, qv]))))))))))

structure RMem (o : Nat → Tag) (q : Nat) (w : World) (b : Nat) (m : RM) (lv : Nat → Value) (kv qv : Value) : Prop where
  clean : Clean o w
  tag : o b = (q, 1)
  blk : Blk w b 76 (wcells m lv kv qv)
  sent : ∀ k, k < 4 → Row o w (q, 2 + k) 102 3 (lv k) (m.line k).sent.length (rowOf (m.line k).sent)
  keys : Row o w (q, 6) 99 4 kv m.keys.length (rkeyCells m.keys)
  queue : Row o w (q, 7) 3 1 qv m.queue.length (numCells m.queue)

section
variable {o o' : Nat → Tag} {q q' : Nat} {w w' : World} {b : Nat} {m m' : RM} {lv : Nat → Value} {kv qv : Value}

theorem RMem.fr (h : RMem o q w b m lv kv qv) (hf : Fr q' o w o' w') (hq : q ≠ q') : RMem o' q w' b m lv kv qv :=
  ⟨hf.clean, (hf.tags b h.blk.lt).trans h.tag, h.blk.keep (hf.block b h.blk.lt (by rw [h.tag]; exact hq)),
   fun k hk => (h.sent k hk).fr hf hq, h.keys.fr hf hq, h.queue.fr hf hq⟩

theorem RMem.below (h : RMem o q w b m lv kv qv) (hf : Below w.heap.size w w') : RMem o q w' b m lv kv qv :=
  ⟨h.clean.le hf.size, h.tag, h.blk.below hf, fun k hk => (h.sent k hk).below hf, h.keys.below hf, h.queue.below hf⟩

theorem RMem.alloc (h : RMem o q w b m lv kv qv) (ob : Obj) : RMem o q (w.alloc ob) b m lv kv qv := h.below ((Below.refl _ _).alloc (Nat.le_refl _) ob)
theorem RMem.drew (h : RMem o q w b m lv kv qv) : RMem o q w.drew b m lv kv qv := h.below (Below.refl _ _).drew

/-- The struct itself was written. -/
theorem RMem.put (h : RMem o q w b m lv kv qv) (hb : Blk w' b 76 (wcells m' lv kv qv)) (hs : w'.heap.size = w.heap.size) (ho : ∀ g, g ≠ b → w'.heap[g]? = w.heap[g]?)
    (h1 : ∀ k, k < 4 → (m'.line k).sent = (m.line k).sent) (h2 : m'.keys = m.keys) (h3 : m'.queue = m.queue) : RMem o q w' b m' lv kv qv :=
  ⟨h.clean.le (Nat.le_of_eq hs.symm), h.tag, hb,
   fun k hk => by rw [h1 k hk]; exact (h.sent k hk).keep (fun _ _ => rfl) fun g _ hg => ho g fun e => by rw [e, h.tag] at hg; simp at hg; omega,
   by rw [h2]; exact h.keys.keep (fun _ _ => rfl) fun g _ hg => ho g fun e => by rw [e, h.tag] at hg; simp at hg,
   by rw [h3]; exact h.queue.keep (fun _ _ => rfl) fun g _ hg => ho g fun e => by rw [e, h.tag] at hg; simp at hg⟩

theorem RMem.fr_put (h : RMem o q w b m lv kv qv) (h' : RMem o q w' b m' lv kv qv) (h1 : w'.os = w.os) (h2 : w'.tape = w.tape) (h3 : w'.output = w.output) (h4 : w'.heap.size = w.heap.size)
    (hb : ∀ g, g ≠ b → w'.heap[g]? = w.heap[g]?) : Fr q o w o w' :=
  ⟨h1, h2, h3, Nat.le_of_eq h4.symm, h'.clean, fun _ _ => rfl, fun g _ hg => hb g (by rintro rfl; rw [h.tag] at hg; exact hg rfl)⟩

theorem RMem.linec (h : RMem o q w b m lv kv qv) {k : Nat} (hk : k < 4) :
    w.cell? ⟨b, 8 + k * 4, none⟩ = some (.bool (m.line k).op) ∧ w.cell? ⟨b, 8 + k * 4 + 1, none⟩ = some (.string (m.line k).come) ∧ w.cell? ⟨b, 8 + k * 4 + 2, none⟩ = some (.int .i64 (m.line k).took) ∧ w.cell? ⟨b, 8 + k * 4 + 3, none⟩ = some (lv k) := by
  refine ⟨?_, ?_, ?_, ?_⟩ <;> (apply h.blk.cell; rcases k with _ | _ | _ | _ | k <;> first | rfl | omega)
theorem RMem.slotc (h : RMem o q w b m lv kv qv) {k : Nat} (hk : k < 6) :
    w.cell? ⟨b, 24 + k * 5, none⟩ = some (.int .i64 (m.slot k).st) ∧ w.cell? ⟨b, 24 + k * 5 + 1, none⟩ = some (.int .i64 (m.slot k).served) ∧ w.cell? ⟨b, 24 + k * 5 + 2, none⟩ = some (.int .i64 (m.slot k).since) ∧
    w.cell? ⟨b, 24 + k * 5 + 3, none⟩ = some (.bool (m.slot k).old) ∧ w.cell? ⟨b, 24 + k * 5 + 4, none⟩ = some (.int .i64 (m.slot k).key) := by
  refine ⟨?_, ?_, ?_, ?_, ?_⟩ <;> (apply h.blk.cell; rcases k with _ | _ | _ | _ | _ | _ | k <;> first | rfl | omega)
theorem RMem.timec (h : RMem o q w b m lv kv qv) : w.cell? ⟨b, 7, none⟩ = some (.int .i64 m.time) := h.blk.cell rfl
theorem RMem.keysv (h : RMem o q w b m lv kv qv) : w.cell? ⟨b, 54, none⟩ = some kv := h.blk.cell rfl
theorem RMem.queuev (h : RMem o q w b m lv kv qv) : w.cell? ⟨b, 55, none⟩ = some qv := h.blk.cell rfl
theorem RMem.chc (h : RMem o q w b m lv kv qv) : w.cell? ⟨b, 0, none⟩ = some (.int .i64 m.set.ch) := h.blk.cell rfl
theorem RMem.dync (h : RMem o q w b m lv kv qv) : w.cell? ⟨b, 1, none⟩ = some (.bool m.set.dyn) := h.blk.cell rfl
theorem RMem.blc (h : RMem o q w b m lv kv qv) : w.cell? ⟨b, 6, none⟩ = some (.int .i64 m.set.bl) := h.blk.cell rfl
theorem RMem.frozen (h : RMem o q w b m lv kv qv) (k : Nat) : w.frozen? ⟨b, k, none⟩ = false := h.blk.frozen k

theorem wcells_slot (m : RM) (lv : Nat → Value) (kv qv : Value) (k : Nat) (hk : k < 6) (s : RSlot) :
    (((((wcells m lv kv qv).set (24 + k * 5) (.int .i64 s.st)).set (24 + k * 5 + 1) (.int .i64 s.served)).set (24 + k * 5 + 2) (.int .i64 s.since)).set (24 + k * 5 + 3) (.bool s.old)).set (24 + k * 5 + 4) (.int .i64 s.key) =
      wcells { m with slot := upd m.slot k s } lv kv qv := by
  rcases k with _ | _ | _ | _ | _ | _ | k <;> first | rfl | omega

/-- A slot's five cells are written. -/
theorem RMem.putSlot (h : RMem o q w b m lv kv qv) {k : Nat} (hk : k < 6) (s : RSlot) :
    let w' := ((((w.setCell ⟨b, 24 + k * 5, none⟩ (.int .i64 s.st)).setCell ⟨b, 24 + k * 5 + 1, none⟩ (.int .i64 s.served)).setCell ⟨b, 24 + k * 5 + 2, none⟩ (.int .i64 s.since)).setCell ⟨b, 24 + k * 5 + 3, none⟩ (.bool s.old)).setCell ⟨b, 24 + k * 5 + 4, none⟩ (.int .i64 s.key)
    RMem o q w' b { m with slot := upd m.slot k s } lv kv qv ∧ Fr q o w o w' := by
  intro w'
  have hoth : ∀ g, g ≠ b → w'.heap[g]? = w.heap[g]? := by
    intro g hg
    simp only [w']
    repeat rw [Below.heap_setCell _ _ _ g (by simpa using hg)]
  have hm : RMem o q w' b { m with slot := upd m.slot k s } lv kv qv := by
    refine h.put ?_ (by simp [w', World.setCell]) hoth (fun _ _ => rfl) rfl rfl
    rw [← wcells_slot m lv kv qv k hk s]
    exact ((((h.blk.set _ _).set _ _).set _ _).set _ _).set _ _
  exact ⟨hm, h.fr_put hm (by simp [w', World.setCell]) (by simp [w', World.setCell]) (by simp [w', World.setCell]) (by simp [w', World.setCell]) hoth⟩

theorem rkeyCells_get (l : List RKey) (k : Nat) (hk : k < l.length) : (rkeyCells l)[k * 4]? = some (.int .i64 l[k].conn) ∧ (rkeyCells l)[k * 4 + 1]? = some (.int .i64 l[k].id) ∧ (rkeyCells l)[k * 4 + 2]? = some (.string l[k].body) ∧ (rkeyCells l)[k * 4 + 3]? = some (.int .i64 l[k].is) := by
  induction l generalizing k with
  | nil => simp at hk
  | cons r l ih =>
    cases k with
    | zero => simp [rkeyCells, RKey.cells]
    | succ k =>
      have := ih k (by simpa using hk)
      have e : rkeyCells (r :: l) = .int .i64 r.conn :: .int .i64 r.id :: .string r.body :: .int .i64 r.is :: rkeyCells l := by simp [rkeyCells, RKey.cells]
      rw [e, show (k + 1) * 4 = k * 4 + 1 + 1 + 1 + 1 from by omega]
      simpa using this

/-- The list of keys as a value, its rows by their numbers. -/
theorem RMem.klist (h : RMem o q w b m lv kv qv) : ∃ ao c, kv = .slice ao m.keys.length c ∧ (m.keys.length : Int) ≤ 9223372036854775807 ∧
    ∀ k (hk : k < m.keys.length), ∃ g, ao = some ⟨g, 0, none⟩ ∧ g < w.heap.size ∧ g ≠ b ∧ o g = (q, 6) ∧ (∀ j, w.frozen? ⟨g, j, none⟩ = false) ∧
    w.cell? ⟨g, k * 4, none⟩ = some (.int .i64 m.keys[k].conn) ∧ w.cell? ⟨g, k * 4 + 1, none⟩ = some (.int .i64 m.keys[k].id) ∧ w.cell? ⟨g, k * 4 + 2, none⟩ = some (.string m.keys[k].body) ∧ w.cell? ⟨g, k * 4 + 3, none⟩ = some (.int .i64 m.keys[k].is) := by
  obtain ⟨ao, c, hv, hn, hg0⟩ := h.keys.form
  refine ⟨ao, c, hv, hn, fun k hk => ?_⟩
  obtain ⟨g, rfl, ho, hlt⟩ := hg0 (by omega)
  have h1 := h.keys.1
  rw [hv] at h1
  have := rkeyCells_get m.keys k hk
  refine ⟨g, rfl, hlt, ?_, ho, fun j => h1.frozenAt j, ?_⟩
  · rintro rfl; rw [h.tag] at ho; simp at ho
  · rw [h1.cellAt _ (by omega), h1.cellAt _ (by omega), h1.cellAt _ (by omega), h1.cellAt _ (by omega)]
    exact this

theorem RMem.qlist (h : RMem o q w b m lv kv qv) : ∃ ao c, qv = .slice ao m.queue.length c ∧ (m.queue.length : Int) ≤ 9223372036854775807 ∧
    ∀ k (hk : k < m.queue.length), ∃ g, ao = some ⟨g, 0, none⟩ ∧ g < w.heap.size ∧ g ≠ b ∧ o g = (q, 7) ∧ w.cell? ⟨g, k, none⟩ = some (.int .i64 m.queue[k]) := by
  obtain ⟨ao, c, hv, hn, hg0⟩ := h.queue.form
  refine ⟨ao, c, hv, hn, fun k hk => ?_⟩
  obtain ⟨g, rfl, ho, hlt⟩ := hg0 (by omega)
  have h1 := h.queue.1
  rw [hv] at h1
  refine ⟨g, rfl, hlt, ?_, ho, ?_⟩
  · rintro rfl; rw [h.tag] at ho; simp at ho
  · rw [h1.cellAt _ (by omega)]
    simp [numCells, List.getElem?_map, List.getElem?_eq_getElem hk]
end
end Go.Proofs.YtlafkpaljibonaaGreat

namespace Go.Proofs.YtlafkpaljibonaaGreat
open Go.RowKit

set_option maxRecDepth 100000 in
set_option maxHeartbeats 400000 in
theorem rIsConn_any (n : Int) (w : World) :
    Calls Tryz.prog 72 #[.int .i64 n] w fun r w' => r = .returned (.bool (isC n)) ∧ w' = w := by
  unfold isC
  go_enter Tryz.func72, Tryz.ntmps72
  go_wp2
  all_goals (go_ret; exact ⟨by simp [*] <;> omega, rfl⟩)

set_option maxRecDepth 100000 in
set_option maxHeartbeats 400000 in
theorem rIsSlot_any (n : Int) (w : World) :
    Calls Tryz.prog 75 #[.int .i64 n] w fun r w' => r = .returned (.bool (isS n)) ∧ w' = w := by
  unfold isS
  go_enter Tryz.func75, Tryz.ntmps75
  go_wp2
  all_goals (go_ret; exact ⟨by simp [*] <;> omega, rfl⟩)

set_option maxRecDepth 100000 in
set_option maxHeartbeats 2000000 in
theorem right_any (c : Cfg) (w : World) :
    Calls Tryz.prog 14 #[c.val] w fun r w' => r = .returned (.bool c.ok) ∧ Below w.heap.size w w' := by
  obtain ⟨ch, dyn, mn, mx, mr, tmo, bl⟩ := c
  simp only [Cfg.val, Cfg.ok]
  cases dyn
  all_goals
    go_enter Tryz.func14, Tryz.ntmps14
    go_wp2
    all_goals
      go_ret
      refine ⟨?_, (Below.refl _ _).alloc (Nat.le_refl _) _⟩
      congr 2
      first | (simp; omega) | (rw [Bool.eq_iff_iff]; simp; omega) | simp [*]

section
variable {o : Nat → Tag} {q : Nat} {w : World} {b : Nat} {m : RM} {lv : Nat → Value} {kv qv : Value}

/-- How many of the first k slots are in a state. -/
def RM.cntTo (m : RM) (st : Int) : Nat → Int
  | 0 => 0
  | k + 1 => m.cntTo st k + (cond ((m.slot k).st == st) 1 0)
def RM.cnt (m : RM) (st : Int) : Int := m.cntTo st 6

theorem RM.cntTo_bd (m : RM) (st : Int) (k : Nat) : 0 ≤ m.cntTo st k ∧ m.cntTo st k ≤ k := by
  induction k with
  | zero => simp [RM.cntTo]
  | succ k ih => simp only [RM.cntTo]; cases ((m.slot k).st == st) <;> simp <;> omega

set_option maxRecDepth 100000 in
set_option maxHeartbeats 1000000 in
theorem count_any (h : RMem o q w b m lv kv qv) (st : Int) :
    Calls Tryz.prog 67 #[.pointer (some ⟨b, 0, none⟩), .int .i64 st] w fun r w' => r = .returned (.int .i64 (m.cnt st)) ∧ w' = w := by
  unfold RM.cnt
  go_enter Tryz.func67, Tryz.ntmps67
  go_wp2
  go_loopw [5, 6] (fun c i w' => ∃ k : Nat, k ≤ 6 ∧ c = .int .i64 (m.cntTo st k) ∧ i = .int .i64 k ∧ w' = w) (fun _ i _ => 6 - (intOf i).toNat)
  case atStart => exact ⟨0, by omega, rfl, rfl, rfl⟩
  case round =>
    obtain ⟨k, hk, rfl, rfl, rfl⟩ := hrel
    by_cases hlt : k < 6
    · have hbd := m.cntTo_bd st k
      obtain ⟨c0, -⟩ := h.slotc hlt
      have HS : Hid (m.cntTo st (k + 1) = m.cntTo st k + (cond ((m.slot k).st == st) 1 0)) := rfl
      by_cases hs : (m.slot k).st = st
      · rw [hs] at c0
        go_wp2
        refine ⟨⟨k + 1, by omega, ?_, by go_num, by first | rfl | trivial⟩, by simp [intOf]; omega⟩
        rw [HS.out, hs]; simp
      · have hs2 : ((m.slot k).st == st) = false := by simpa using hs
        go_wp2
        refine ⟨⟨k + 1, by omega, ?_, by go_num, by first | rfl | trivial⟩, by simp [intOf]; omega⟩
        rw [HS.out, hs2]; simp
    · have : k = 6 := by omega
      subst this
      go_wp2
      go_ret
      exact ⟨rfl, rfl⟩

/-- The first slot in a state, from the place k on, of n. -/
def RM.fst (m : RM) (st : Int) (k : Nat) : Nat → Option Nat
  | 0 => none
  | n + 1 => cond ((m.slot k).st == st) (some k) (m.fst st (k + 1) n)
def RM.first (m : RM) (st : Int) : Option Nat := m.fst st 0 6
def plcI : Option Nat → Int
  | none => -1
  | some k => k

theorem RM.fst_some (m : RM) (st : Int) (k n a : Nat) (h : m.fst st k n = some a) : k ≤ a ∧ a < k + n ∧ (m.slot a).st = st := by
  induction n generalizing k with
  | zero => simp [RM.fst] at h
  | succ n ih =>
    simp only [RM.fst] at h
    cases hr : ((m.slot k).st == st)
    · rw [hr] at h
      have := ih (k + 1) h
      omega
    · rw [hr] at h
      simp only [cond_true, Option.some.injEq] at h
      subst h
      exact ⟨Nat.le_refl _, by omega, by simpa using hr⟩

set_option maxRecDepth 100000 in
set_option maxHeartbeats 1000000 in
theorem first_slot (h : RMem o q w b m lv kv qv) (st : Int) :
    Calls Tryz.prog 70 #[.pointer (some ⟨b, 0, none⟩), .int .i64 st] w fun r w' => r = .returned (.int .i64 (plcI (m.first st))) ∧ w' = w := by
  unfold RM.first
  go_enter Tryz.func70, Tryz.ntmps70
  go_wp2
  go_loopw [5] (fun i w' => ∃ k : Nat, k ≤ 6 ∧ m.fst st 0 6 = m.fst st k (6 - k) ∧ i = .int .i64 k ∧ w' = w) (fun i _ => 6 - (intOf i).toNat)
  case atStart => exact ⟨0, by omega, rfl, rfl, rfl⟩
  case round =>
    obtain ⟨k, hk, hf, rfl, rfl⟩ := hrel
    have HF : Hid _ := hf
    clear hf
    by_cases hlt : k < 6
    · obtain ⟨c0, -⟩ := h.slotc hlt
      have HS : Hid (m.fst st k (6 - k) = cond ((m.slot k).st == st) (some k) (m.fst st (k + 1) (6 - (k + 1)))) := by
        rw [show 6 - k = (6 - (k + 1)) + 1 from by omega]; rfl
      by_cases hs : (m.slot k).st = st
      · rw [hs] at c0
        go_wp2
        go_ret
        refine ⟨?_, rfl⟩
        rw [HF.out, HS.out, hs]; simp [plcI]
      · have hs2 : ((m.slot k).st == st) = false := by simpa using hs
        go_wp2
        refine ⟨⟨k + 1, by omega, ?_, by go_num, by first | rfl | trivial⟩, by simp [intOf]; omega⟩
        rw [HF.out, HS.out, hs2]; simp
    · have : k = 6 := by omega
      subst this
      go_wp2
      go_ret
      refine ⟨?_, rfl⟩
      rw [HF.out]; simp [plcI, RM.fst]

def startSlot : RSlot := ⟨1, 0, 0, false, 0⟩
def RM.starts (m : RM) : RM :=
  match m.first 0 with
  | some k => { m with slot := upd m.slot k startSlot }
  | none => m

set_option maxRecDepth 100000 in
set_option maxHeartbeats 1000000 in
theorem starts_any (h : RMem o q w b m lv kv qv) :
    Calls Tryz.prog 68 #[.pointer (some ⟨b, 0, none⟩)] w fun r w' => r = .returned (.tuple #[]) ∧ RMem o q w' b m.starts lv kv qv ∧ Fr q o w o w' := by
  have hc : Hid (∀ w', RMem o q w' b m lv kv qv → Calls Tryz.prog 70 #[.pointer (some ⟨b, 0, none⟩), .int .i64 0] w' fun r w'' => r = .returned (.int .i64 (plcI (m.first 0))) ∧ w'' = w') := fun w' h' => first_slot h' 0
  unfold RM.starts
  cases hf : m.first 0 with
  | none =>
    rw [hf] at hc
    go_enter Tryz.func68, Tryz.ntmps68
    go_wp2_with fail
    refine (hc.out _ h).mono ?_
    rintro e w1 ⟨rfl, rfl⟩
    unfold plcI
    go_wp2
    exact bodyPost_end (v := .tuple #[]) (by simp [results, Tryz.results68, go_sem]) rfl ⟨rfl, h, Fr.refl h.clean⟩
  | some k =>
    rw [hf] at hc
    obtain ⟨-, hk, -⟩ := m.fst_some 0 0 6 k hf
    have hk : k < 6 := by omega
    obtain ⟨c0, c1, c2, c3, c4⟩ := h.slotc hk
    have fz := h.frozen
    clear hf
    go_enter Tryz.func68, Tryz.ntmps68
    go_wp2_with fail
    refine (hc.out _ h).mono ?_
    rintro e w1 ⟨rfl, rfl⟩
    unfold plcI
    go_wp2
    exact bodyPost_end (v := .tuple #[]) (by simp [results, Tryz.results68, go_sem]) rfl ⟨rfl, h.putSlot hk startSlot⟩

set_option maxRecDepth 100000 in
set_option maxHeartbeats 400000 in
theorem rTime_any (h : RMem o q w b m lv kv qv) :
    Calls Tryz.prog 21 #[.pointer (some ⟨b, 0, none⟩)] w fun r w' => r = .returned (.int .i64 m.time) ∧ w' = w := by
  have h1 := h.timec
  go_enter Tryz.func21, Tryz.ntmps21
  go_wp2
  go_ret
  exact ⟨rfl, rfl⟩

def RM.open_ (m : RM) (n : Int) : Bool := isC n && (m.line n.toNat).op

set_option maxRecDepth 100000 in
set_option maxHeartbeats 400000 in
theorem rOpen_any (h : RMem o q w b m lv kv qv) (n : Int) :
    Calls Tryz.prog 34 #[.pointer (some ⟨b, 0, none⟩), .int .i64 n] w fun r w' => r = .returned (.bool (m.open_ n)) ∧ w' = w := by
  rcases isC_cases n with h0 | ⟨h0, k, hk, rfl⟩
  · unfold RM.open_
    go_enter Tryz.func34, Tryz.ntmps34
    go_wp2_with fail
    refine (rIsConn_any _ _).mono ?_
    rintro e w1 ⟨rfl, rfl⟩
    rw [h0]
    go_wp2
    go_ret
    exact ⟨by simp [h0], rfl⟩
  · obtain ⟨h1, -⟩ := h.linec hk
    unfold RM.open_
    rw [h0]
    simp only [Bool.true_and, Int.toNat_natCast]
    go_enter Tryz.func34, Tryz.ntmps34
    go_wp2_with fail
    refine (rIsConn_any _ _).mono ?_
    rintro e w1 ⟨rfl, rfl⟩
    rw [h0]
    go_wp2
    go_ret
    exact ⟨rfl, rfl⟩

def RM.stE (m : RM) (n st : Int) : Int := cond (isS n) (cond ((m.slot n.toNat).st == st) 0 6) 5

set_option maxRecDepth 100000 in
set_option maxHeartbeats 400000 in
theorem rState_any (h : RMem o q w b m lv kv qv) (n st : Int) :
    Calls Tryz.prog 77 #[.pointer (some ⟨b, 0, none⟩), .int .i64 n, .int .i64 st] w fun r w' => r = .returned (.int .i64 (m.stE n st)) ∧ w' = w := by
  unfold RM.stE
  rcases isS_cases n with h0 | ⟨h0, k, hk, rfl⟩
  · simp only [h0, cond_false]
    go_enter Tryz.func77, Tryz.ntmps77
    go_wp2_with fail
    refine (rIsSlot_any _ _).mono ?_
    rintro e w1 ⟨rfl, rfl⟩
    rw [h0]
    go_wp2
    go_ret
    exact ⟨rfl, rfl⟩
  · obtain ⟨c0, -⟩ := h.slotc hk
    simp only [h0, cond_true, Int.toNat_natCast]
    generalize (m.slot k).st = s at *
    by_cases hs : s = st
    · subst hs
      simp only [beq_self_eq_true, cond_true]
      go_enter Tryz.func77, Tryz.ntmps77
      go_wp2_with fail
      refine (rIsSlot_any _ _).mono ?_
      rintro e w1 ⟨rfl, rfl⟩
      rw [h0]
      go_wp2
      go_ret
      exact ⟨rfl, rfl⟩
    · have hs2 : (s == st) = false := by simpa using hs
      simp only [hs2, cond_false]
      go_enter Tryz.func77, Tryz.ntmps77
      go_wp2_with fail
      refine (rIsSlot_any _ _).mono ?_
      rintro e w1 ⟨rfl, rfl⟩
      rw [h0]
      go_wp2
      go_ret
      exact ⟨rfl, rfl⟩
end
end Go.Proofs.YtlafkpaljibonaaGreat

namespace Go.Proofs.YtlafkpaljibonaaGreat
open Go.RowKit

def noKey : RKey := ⟨0, 0, ⟨#[]⟩, 3⟩
def RM.key (m : RM) (i : Nat) : RKey := m.keys.getD i noKey
theorem RM.key_eq (m : RM) {i : Nat} (h : i < m.keys.length) : m.key i = m.keys[i] := by
  simp [RM.key, List.getD, List.getElem?_eq_getElem h]

def Cfg.fits (c : Cfg) : Prop := c.ch ≤ 6 ∧ (c.dyn = true → 0 ≤ c.mx)

structure RM.wf (m : RM) : Prop where
  q : ∀ i ∈ m.queue, i < m.keys.length
  s : ∀ k, k < 6 → (m.slot k).st = 3 → (m.slot k).key < m.keys.length
  ch : m.set.fits

def RM.back (m : RM) : List Nat := m.queue.filter fun i => (m.key i).is == 1
def RM.live (m : RM) (k : Nat) : Bool := (m.slot k).st == 3 && (m.key (m.slot k).key).is == 2

theorem numCells_append (a b : List Nat) : numCells (a ++ b) = numCells a ++ numCells b := by simp [numCells]
theorem numCells_one (l : List Nat) : ∀ u ∈ numCells l, u.oneCell' = true := by
  intro u hu
  simp only [numCells, List.mem_map] at hu
  obtain ⟨r, _, rfl⟩ := hu
  rfl
theorem news_num (W : World) (g : Nat) (hg : W.heap.size = g) (x : Nat) (T : TypeId) : ∀ j u, (numCells [x])[j]? = some u → (W.alloc (.cells #[.int .i64 x] T)).cell? ((⟨g, 0, none⟩ : Addr).add j) = some u := by
  subst hg
  exact World.news_of_block (heap_alloc_new W _)

theorem infoInt : (Tryz.prog.info? 3).map (fun i => (i.zero, i.size, i.bytes)) = some (some (.int .i64 0), 1, 8) := by kernel_rfl

section
variable {o : Nat → Tag} {q : Nat} {w : World} {b : Nat} {m : RM} {lv : Nat → Value} {kv qv : Value}

set_option maxRecDepth 100000 in
set_option maxHeartbeats 2000000 in
theorem rback_any (h : RMem o q w b m lv kv qv) (hwf : m.wf) (hmax : m.queue.length ≤ 1000000000000) :
    Calls Tryz.prog 69 #[.pointer (some ⟨b, 0, none⟩)] w fun r w' => ∃ v, r = .returned v ∧ w'.ownsRow w.heap.size 3 1 v m.back.length (numCells m.back) ∧ Below w.heap.size w w' := by
  obtain ⟨i0, hi, hz0, hz1, hz2⟩ := info_parts infoInt
  obtain ⟨ao, c, rfl, hn, hrow⟩ := h.qlist
  obtain ⟨ak, ck, rfl, hkn, hkrow⟩ := h.klist
  have h1 := h.queuev
  have h2 := h.keysv
  have hbl := h.blk.lt
  go_enter Tryz.func69, Tryz.ntmps69
  go_wp2
  go_loopw [3, 4] (fun v i w' => ∃ k : Nat, k ≤ m.queue.length ∧ i = .int .i64 k ∧ w'.ownsRow w.heap.size 3 1 v ((m.queue.take k).filter fun i => (m.key i).is == 1).length (numCells ((m.queue.take k).filter fun i => (m.key i).is == 1)) ∧ Below w.heap.size w w') (fun _ i _ => m.queue.length - (intOf i).toNat)
  case atStart => exact ⟨0, by omega, rfl, World.ownsRow_nil _ _ _ _, Below.refl _ _⟩
  case round =>
    obtain ⟨k, hk, rfl, hown, hb⟩ := hrel
    have hbase := hb.size
    rw [← hb.cell (by exact hbl)] at h1 h2
    by_cases hlt : k < m.queue.length
    · obtain ⟨g, rfl, hg, -, -, c0⟩ := hrow k hlt
      have hqi := hwf.q m.queue[k] (List.getElem_mem hlt)
      obtain ⟨gk, rfl, hgk, -, -, -, -, -, -, k3⟩ := hkrow _ hqi
      have hst := List.take_succ_eq_append_getElem hlt
      have HS : Hid _ := hst
      have hll : ((m.queue.take k).filter fun i => (m.key i).is == 1).length ≤ k := Nat.le_trans (List.length_filter_le _ _) (by rw [List.length_take]; omega)
      clear hst hrow hkrow
      rw [← m.key_eq hqi] at k3
      rw [← hb.cell (by exact hg)] at c0
      rw [← hb.cell (by exact hgk)] at k3
      generalize hacc : List.filter (fun i => (m.key i).is == 1) (List.take k m.queue) = acc at *
      have HA : Hid _ := hacc
      clear hacc
      generalize m.queue[k] = x at *
      by_cases h1 : (m.key x).is = 1
      · rw [h1] at k3
        go_wp2
        go_quiet (fail)
        have hbd : Below w.heap.size w (wr.drewN nq) := below_dN hb
        have hownd : (wr.drewN nq).ownsRow w.heap.size 3 1 u3 acc.length (numCells acc) := hown
        have c0d : (wr.drewN nq).cell? ⟨g, k, none⟩ = some (.int .i64 (x : Int)) := c0
        have q0d : (wr.drewN nq).cell? ⟨b, 55, none⟩ = some (.slice (some ⟨g, 0, none⟩) m.queue.length c) := by assumption
        have hbased : w.heap.size ≤ (wr.drewN nq).heap.size := hbase
        clear hown c0 k3 h2 hb hbase
        generalize wr.drewN nq = wd at *
        go_wp2_with (at_builtin; refine wpList_append_own _ rfl _ _ 74 rfl w.heap.size 3 i0 (.int .i64 0) 1 8 Tryz.underlying74 hi hz0 hz1 hz2 rfl (by omega) u3 acc.length (numCells acc) rfl ?hown ⟨wd.heap.size, 0, none⟩ 1 1 (numCells [x]) rfl rfl ?hnews ?h1 ?h63 ?hbytes ?hbase ?_)
        case hown => exact hownd.alloc _
        case hnews => exact news_num _ _ (by simp) _ _
        case h1 => exact numCells_one _
        case h63 => unfold maxLen; omega
        case hbytes => omega
        case hbase => simp; omega
        intro v' w2 hown2 hgrow _
        go_wp2
        refine ⟨⟨k + 1, by omega, by go_num, ?_, ?_⟩, by simp [intOf]; omega⟩
        · rw [HS.out, List.filter_append, show List.filter (fun i => (m.key i).is == 1) [x] = [x] from by simp [List.filter, h1], HA.out, numCells_append]
          simpa using hown2
        · refine (hbd.alloc hbased _).grown hgrow (by simp; omega) ?_
          intro y hy
          exact (hownd.lt y hy).1
      · have h2 : ((m.key x).is == 1) = false := by simpa using h1
        go_wp2
        go_quiet (fail)
        go_wp2
        refine ⟨⟨k + 1, by omega, by go_num, ?_, below_dN hb⟩, by simp [intOf]; omega⟩
        rw [HS.out, List.filter_append, show List.filter (fun i => (m.key i).is == 1) [x] = [] from by simp [List.filter, h2], HA.out, List.append_nil]
        exact hown
    · have : k = m.queue.length := by omega
      subst this
      go_wp2
      go_ret
      rw [List.take_length] at hown
      exact ⟨_, rfl, hown, hb⟩

set_option maxRecDepth 100000 in
set_option maxHeartbeats 1000000 in
theorem live_any (h : RMem o q w b m lv kv qv) (hwf : m.wf) (k : Nat) (hk : k < 6) :
    Calls Tryz.prog 59 #[.pointer (some ⟨b, 0, none⟩), .int .i64 k] w fun r w' => r = .returned (.bool (m.live k)) ∧ Below w.heap.size w w' := by
  obtain ⟨c0, -, -, -, c4⟩ := h.slotc hk
  obtain ⟨ak, ck, rfl, hkn, hkrow⟩ := h.klist
  have h2 := h.keysv
  unfold RM.live
  by_cases h3 : (m.slot k).st = 3
  · have hkey := hwf.s k hk h3
    obtain ⟨gk, rfl, hgk, -, -, -, -, -, -, k3⟩ := hkrow _ hkey
    rw [← m.key_eq hkey] at k3
    rw [h3] at c0
    simp only [h3, beq_self_eq_true, Bool.true_and]
    clear hkrow h3
    generalize (m.slot k).key = key at *
    generalize (m.key key).is = is at *
    have g1 : decide ((3 : Int) = 3) = true := by simp
    go_enter Tryz.func59, Tryz.ntmps59
    go_wp2
    go_quiet (fail)
    go_wp2
    go_ret
    exact ⟨by first | rfl | simp, below_dN (Below.refl _ _)⟩
  · have h3' : ((m.slot k).st == 3) = false := by simpa using h3
    simp only [h3', Bool.false_and]
    generalize (m.slot k).st = st at *
    have g1 : decide (st = 3) = false := by simpa using h3
    clear hkrow
    go_enter Tryz.func59, Tryz.ntmps59
    go_wp2
    go_quiet (fail)
    go_wp2
    go_ret
    exact ⟨by first | rfl | simp, below_dN (Below.refl _ _)⟩

end
end Go.Proofs.YtlafkpaljibonaaGreat

namespace Go.Proofs.YtlafkpaljibonaaGreat
open Go.RowKit

def RM.connOf (m : RM) (k : Nat) : Int := cond (m.live k) (m.key (m.slot k).key).conn (-1)
def RM.idOf (m : RM) (k : Nat) : Int := cond (m.live k) (m.key (m.slot k).key).id 0
def RM.slotV (m : RM) (n : Int) : Value := cond (isS n) (.agg #[.int .i64 (m.slot n.toNat).st, .bool (m.slot n.toNat).old, .int .i64 (m.slot n.toNat).served, .int .i64 (m.slot n.toNat).since, .int .i64 (m.connOf n.toNat), .int .i64 (m.idOf n.toNat)]) slotNil

theorem three_blks (w : World) (A B C : List Value) (T1 T2 T3 : TypeId) :
    let W := ((w.alloc (.cells A.toArray T1)).alloc (.cells B.toArray T2)).alloc (.cells C.toArray T3)
    Blk W w.heap.size T1 A ∧ Blk W (w.heap.size + 1) T2 B ∧ Blk W (w.heap.size + 1 + 1) T3 C ∧ Below w.heap.size w W := by
  intro W
  have e1 : (w.alloc (.cells A.toArray T1)).heap.size = w.heap.size + 1 := by simp
  have e2 : ((w.alloc (.cells A.toArray T1)).alloc (.cells B.toArray T2)).heap.size = w.heap.size + 1 + 1 := by simp
  have b1 := Blk.made w T1 A
  have b2 := Blk.made (w.alloc (.cells A.toArray T1)) T2 B
  have b3 := Blk.made ((w.alloc (.cells A.toArray T1)).alloc (.cells B.toArray T2)) T3 C
  rw [e1] at b2
  rw [e2] at b3
  have s1 := fun (x : World) (ob : Obj) => (Below.refl x.heap.size x).alloc (Nat.le_refl _) ob
  exact ⟨(b1.below (s1 _ _)).below (s1 _ _), b2.below (s1 _ _), b3, ((Below.refl _ _).alloc (Nat.le_refl _) _ |>.alloc (by simp) _).alloc (by simp; omega) _⟩

section
variable {o : Nat → Tag} {q : Nat} {w : World} {b : Nat} {m : RM} {lv : Nat → Value} {kv qv : Value}

set_option maxRecDepth 100000 in
set_option maxHeartbeats 2000000 in
theorem rSlot_any (h : RMem o q w b m lv kv qv) (hwf : m.wf) (hlv : ∀ k, k < 6 → m.live k = false) (n : Int) :
    Calls Tryz.prog 38 #[.pointer (some ⟨b, 0, none⟩), .int .i64 n] w fun r w' => r = .returned (.tuple #[m.slotV n, .int .i64 (slotE n)]) ∧ Below w.heap.size w w' := by
  rcases isS_cases n with h0 | ⟨h0, k, hk, rfl⟩
  · simp only [RM.slotV, slotE, h0, cond_false]
    go_enter Tryz.func38, Tryz.ntmps38
    go_wp2_with fail
    refine (rIsSlot_any _ _).mono ?_
    rintro e w1 ⟨rfl, rfl⟩
    rw [h0]
    go_wp2
    exact bodyPost_ret (v := .tuple #[slotNil, .int .i64 5]) (by simp [results, Tryz.results38, go_sem, slotNil]) rfl ⟨rfl, (Below.refl _ _).alloc (Nat.le_refl _) _⟩
  · simp only [RM.slotV, slotE, h0, cond_true, Int.toNat_natCast]
    have hA := fun ob => (h.alloc ob).slotc hk
    have c0 := fun ob => (hA ob).1
    have c1 := fun ob => (hA ob).2.1
    have c2 := fun ob => (hA ob).2.2.1
    have c3 := fun ob => (hA ob).2.2.2.1
    have c4 := fun ob => (hA ob).2.2.2.2
    clear hA
    cases hlive : m.live k
    · simp only [RM.connOf, RM.idOf, hlive, cond_false]
      have hc : Hid (∀ w', RMem o q w' b m lv kv qv → Calls Tryz.prog 59 #[.pointer (some ⟨b, 0, none⟩), .int .i64 k] w' fun r w'' => r = .returned (.bool false) ∧ Below w'.heap.size w' w'') := fun w' h' => hlive ▸ live_any h' hwf k hk
      go_enter Tryz.func38, Tryz.ntmps38
      go_wp2_with fail
      refine (rIsSlot_any _ _).mono ?_
      rintro e w1 ⟨rfl, rfl⟩
      rw [h0]
      go_wp2_with fail
      refine (hc.out _ (((h.alloc _).alloc _).alloc _)).mono ?_
      rintro e w2 ⟨rfl, hb⟩
      obtain ⟨k0, k1, k2, kb⟩ := three_blks w [.int .i64 0, .bool false, .int .i64 0, .int .i64 0, .int .i64 0, .int .i64 0] [.int .i64 (m.slot k).st, .int .i64 (m.slot k).served, .int .i64 (m.slot k).since, .bool (m.slot k).old, .int .i64 (m.slot k).key] [.int .i64 (m.slot k).st, .bool (m.slot k).old, .int .i64 (m.slot k).served, .int .i64 (m.slot k).since, .int .i64 (-1), .int .i64 0] 59 71 59
      have j0 := k0.below hb
      have j2 := k2.below hb
      have hbb : Below w.heap.size w w2 := kb.trans (hb.mono (by simp; omega))
      clear k0 k1 k2 kb hb c0 c1 c2 c3 c4 hc
      have a0 := j2.cell (k := 0) rfl
      have a1 := j2.cell (k := 1) rfl
      have a2 := j2.cell (k := 2) rfl
      have a3 := j2.cell (k := 3) rfl
      have a4 := j2.cell (k := 4) rfl
      have a5 := j2.cell (k := 5) rfl
      have d0 := j0.cell (k := 0) rfl
      have d1 := j0.cell (k := 1) rfl
      have d2 := j0.cell (k := 2) rfl
      have d3 := j0.cell (k := 3) rfl
      have d4 := j0.cell (k := 4) rfl
      have d5 := j0.cell (k := 5) rfl
      have fz := j0.frozen
      go_wp2
      refine bodyPost_ret (v := .tuple #[.agg #[.int .i64 (m.slot k).st, .bool (m.slot k).old, .int .i64 (m.slot k).served, .int .i64 (m.slot k).since, .int .i64 (-1), .int .i64 0], .int .i64 0]) (by simp [results, Tryz.results38, go_sem, d0, d1, d2, d3, d4, d5]) rfl ⟨rfl, ?_⟩
      repeat (first | refine Below.setCell ?_ (by simp) _ | exact hbb)
    · rw [hlv k hk] at hlive; cases hlive
end
end Go.Proofs.YtlafkpaljibonaaGreat

namespace Go.Proofs.YtlafkpaljibonaaGreat
open Go.RowKit

def RM.jobV (m : RM) (n : Int) : ByteArray := cond (isS n && (m.slot n.toNat).st == 3) (m.key (m.slot n.toNat).key).body ⟨#[]⟩

section
variable {o : Nat → Tag} {q : Nat} {w : World} {b : Nat} {m : RM} {lv : Nat → Value} {kv qv : Value}

set_option maxRecDepth 100000 in
set_option maxHeartbeats 1000000 in
theorem rJob_any (h : RMem o q w b m lv kv qv) (hwf : m.wf) (n : Int) :
    Calls Tryz.prog 40 #[.pointer (some ⟨b, 0, none⟩), .int .i64 n] w fun r w' => r = .returned (.tuple #[.string (m.jobV n), .int .i64 (m.stE n 3)]) ∧ Below w.heap.size w w' := by
  have hc : Hid (∀ w', RMem o q w' b m lv kv qv → Calls Tryz.prog 77 #[.pointer (some ⟨b, 0, none⟩), .int .i64 n, .int .i64 3] w' fun r w'' => r = .returned (.int .i64 (m.stE n 3)) ∧ w'' = w') := fun w' h' => rState_any h' n 3
  unfold RM.jobV
  unfold RM.stE at *
  rcases isS_cases n with h0 | ⟨h0, k, hk, rfl⟩
  · simp only [h0, cond_false, Bool.false_and] at *
    go_enter Tryz.func40, Tryz.ntmps40
    go_wp2_with fail
    refine (hc.out _ h).mono ?_
    rintro e w1 ⟨rfl, rfl⟩
    go_wp2
    go_ret2
    exact ⟨rfl, Below.refl _ _⟩
  · simp only [h0, cond_true, Int.toNat_natCast, Bool.true_and] at *
    by_cases h3 : (m.slot k).st = 3
    · have hkey := hwf.s k hk h3
      simp only [h3, beq_self_eq_true, cond_true] at *
      obtain ⟨ak, ck, rfl, hkn, hkrow⟩ := h.klist
      obtain ⟨gk, rfl, hgk, hgb, -, -, -, -, g2, -⟩ := hkrow _ hkey
      have hkv := h.keysv
      obtain ⟨-, -, -, -, c4⟩ := h.slotc hk
      rw [← m.key_eq hkey] at g2
      generalize (m.key (m.slot k).key).body = bd at *
      clear hkrow h3
      go_enter Tryz.func40, Tryz.ntmps40
      go_wp2_with fail
      refine (hc.out _ h).mono ?_
      rintro e w1 ⟨rfl, rfl⟩
      go_wp2
      go_quiet (fail)
      go_wp2
      go_ret2
      exact ⟨rfl, below_dN (Below.refl _ _)⟩
    · have h3' : ((m.slot k).st == 3) = false := by simpa using h3
      simp only [h3', cond_false] at *
      go_enter Tryz.func40, Tryz.ntmps40
      go_wp2_with fail
      refine (hc.out _ h).mono ?_
      rintro e w1 ⟨rfl, rfl⟩
      go_wp2
      go_ret2
      exact ⟨rfl, Below.refl _ _⟩

def encs : List Rec → ByteArray
  | [] => ⟨#[]⟩
  | r :: l => encB r.1 r.2.1 r.2.2 ++ encs l
def RM.sent_ (m : RM) (n : Int) : ByteArray := cond (isC n) (encs (m.line n.toNat).sent) ⟨#[]⟩

theorem encs_append (a b : List Rec) : encs (a ++ b) = encs a ++ encs b := by
  induction a with
  | nil => simp [encs, nil_ba]
  | cons r a ih => simp only [List.cons_append, encs, ih, ByteArray.append_assoc]

theorem encs_size (l : List Rec) : (encs l).size ≤ l.length * 208 := by
  induction l with
  | nil => decide
  | cons r l ih =>
    have := encB_size r.1 r.2.1 r.2.2
    simp only [encs, ByteArray.size_append, List.length_cons]
    omega

set_option maxRecDepth 100000 in
set_option maxHeartbeats 1000000 in
theorem rSent_any (h : RMem o q w b m lv kv qv) (n : Int) (hmax : ∀ k, k < 4 → (m.line k).sent.length ≤ 1000000000000) :
    Calls Tryz.prog 36 #[.pointer (some ⟨b, 0, none⟩), .int .i64 n] w fun r w' => r = .returned (.string (m.sent_ n)) ∧ Below w.heap.size w w' := by
  unfold RM.sent_
  rcases isC_cases n with h0 | ⟨h0, k, hk, rfl⟩
  · simp only [h0, cond_false]
    go_enter Tryz.func36, Tryz.ntmps36
    go_wp2_with fail
    refine (rIsConn_any _ _).mono ?_
    rintro e w1 ⟨rfl, rfl⟩
    rw [h0]
    go_wp2
    go_ret
    exact ⟨rfl, Below.refl _ _⟩
  · simp only [h0, cond_true, Int.toNat_natCast]
    obtain ⟨-, -, -, c3⟩ := h.linec hk
    obtain ⟨ao, c, hv, hn, hg0⟩ := (h.sent k hk).form
    have hrow := (h.sent k hk).1
    have hlim := hmax k hk
    have hbl := h.blk.lt
    rw [hv] at c3 hrow
    clear hmax hv
    generalize (m.line k).sent = l at *
    go_enter Tryz.func36, Tryz.ntmps36
    go_wp2_with fail
    refine (rIsConn_any _ _).mono ?_
    rintro e w1 ⟨rfl, rfl⟩
    rw [h0]
    go_wp2
    go_loopw [6, 7] (fun s i w' => ∃ j : Nat, j ≤ l.length ∧ s = .string (encs (l.take j)) ∧ i = .int .i64 j ∧ Below w1.heap.size w1 w') (fun _ i _ => l.length - (intOf i).toNat)
    case atStart => exact ⟨0, by omega, rfl, rfl, Below.refl _ _⟩
    case round =>
      obtain ⟨j, hj, rfl, rfl, hb⟩ := hrel
      rw [← hb.cell (by exact hbl)] at c3
      by_cases hlt : j < l.length
      · obtain ⟨g, rfl, hgo, hg⟩ := hg0 (by omega)
        have hr := rowOf_get l j hlt
        rw [Nat.mul_comm 3 j] at hr
        have c0 := hrow.cellAt (j * 3) (by omega)
        have c1 := hrow.cellAt (j * 3 + 1) (by omega)
        have c2 := hrow.cellAt (j * 3 + 2) (by omega)
        rw [hr.1, ← hb.cell (by exact hg)] at c0
        rw [hr.2.1, ← hb.cell (by exact hg)] at c1
        rw [hr.2.2, ← hb.cell (by exact hg)] at c2
        have hst := List.take_succ_eq_append_getElem hlt
        have HS : Hid _ := hst
        have hs1 := encs_size (l.take j)
        rw [List.length_take] at hs1
        clear hst hr hrow
        generalize l[j] = r at *
        have hs2 := encB_size r.1 r.2.1 r.2.2
        have HE : Hid (∀ w, Calls Tryz.prog 73 #[.agg #[.int .i64 r.1, .int .i64 r.2.1, .string r.2.2]] w fun x w' => x = .returned (.tuple #[.string (encB r.1 r.2.1 r.2.2), .int .i64 (encE r.1 r.2.1 r.2.2)]) ∧ Below w.heap.size w w') := fun w => refEncode_any _ _ _ w
        generalize hE : encB r.1 r.2.1 r.2.2 = E at *
        have HE2 : Hid _ := hE
        generalize hS : encs (l.take j) = S at *
        have HS2 : Hid _ := hS
        clear hE hS
        have hcat : ¬ (9223372036854775807 < S.size + E.size) := by omega
        go_wp2_with fail
        refine (HE.out _).mono ?_
        rintro e w2 ⟨rfl, hb2⟩
        go_wp2
        refine ⟨⟨j + 1, by omega, ?_, by go_num, hb.trans (hb2.mono hb.size)⟩, by simp [intOf]; omega⟩
        rw [HS.out, encs_append, HS2.out]
        simp only [encs, ba_nil, HE2.out]
      · have : j = l.length := by omega
        go_wp2
        go_ret
        rw [this, List.take_length]
        exact ⟨rfl, hb⟩

end
end Go.Proofs.YtlafkpaljibonaaGreat
