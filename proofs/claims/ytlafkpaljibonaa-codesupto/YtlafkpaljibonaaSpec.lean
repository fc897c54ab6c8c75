import Derived.Test.YtlafkpaljibonaaD
namespace Go.Proofs.Ytlafkpaljibonaa
open Go.RowKit

/-- A record as the proofs have it: kind, Id, Content. -/
abbrev Rec := Int × Int × ByteArray

def rcells (r : Rec) : List Value := [.int .i64 r.1, .int .i64 r.2.1, .string r.2.2]
def rowOf (l : List Rec) : List Value := l.flatMap rcells

/-- What stands at the beginning of some bytes: 0: nothing whole; 1: a bad head; 2: a record. -/
def code (t : ByteArray) : Nat :=
  if (t.size : Int) < 8 then 0 else if badT t then 1 else if (t.size : Int) < 8 + hLen t + hPad t then 0 else 2
def recT (t : ByteArray) : Rec := (hKind t, hId t, t.extract 8 (8 + hLen t).toNat)
def sizeT (t : ByteArray) : Nat := (8 + hLen t + hPad t).toNat

/-- What is left of s from a place on. -/
def left (s : ByteArray) (i : Nat) : ByteArray := s.extract i s.size

theorem left_size (s : ByteArray) (i : Nat) : (left s i).size = s.size - i := by
  simp [left, ByteArray.size_extract]

def dec : Nat → ByteArray → Nat → List Rec × Nat × Int
  | 0, _, i => ([], i, 0)
  | f + 1, s, i =>
    if code (left s i) = 0 then ([], i, 0)
    else if code (left s i) = 1 then ([], i, 7)
    else (recT (left s i) :: (dec f s (i + sizeT (left s i))).1, (dec f s (i + sizeT (left s i))).2)

def decL (s : ByteArray) : List Rec := (dec (s.size + 1) s 0).1
def decN (s : ByteArray) : Nat := (dec (s.size + 1) s 0).2.1
def decE (s : ByteArray) : Int := (dec (s.size + 1) s 0).2.2

theorem code_two {t : ByteArray} (h : code t = 2) : 8 ≤ sizeT t ∧ sizeT t ≤ t.size ∧ badT t = false ∧ 8 + hLen t + hPad t ≤ (t.size : Int) ∧ 8 ≤ (t.size : Int) := by
  have hd := hd_bd t
  unfold code at h
  split at h
  · cases h
  · split at h
    · cases h
    · split at h
      · cases h
      · rename_i h1 h2 h3
        refine ⟨by unfold sizeT; omega, by unfold sizeT; omega, by simpa using h2, by omega, by omega⟩

theorem code_cases (t : ByteArray) : code t = 0 ∨ code t = 1 ∨ code t = 2 := by
  unfold code
  split
  · simp
  · split
    · simp
    · split <;> simp

theorem dec_zero {f : Nat} {s : ByteArray} {i : Nat} (h : code (left s i) = 0) : dec f s i = ([], i, 0) := by
  cases f with
  | zero => rfl
  | succ f => simp [dec, h]
theorem dec_one {f : Nat} {s : ByteArray} {i : Nat} (h : code (left s i) = 1) : dec (f + 1) s i = ([], i, 7) := by
  simp [dec, h]
theorem dec_two {f : Nat} {s : ByteArray} {i : Nat} (h : code (left s i) = 2) : dec (f + 1) s i = (recT (left s i) :: (dec f s (i + sizeT (left s i))).1, (dec f s (i + sizeT (left s i))).2) := by
  simp [dec, h]

theorem code_short {s : ByteArray} {i : Nat} (h : s.size - i < 8) : code (left s i) = 0 := by
  unfold code
  rw [if_pos]
  rw [left_size]; omega

/-- 'first' in one row. -/
def firstV (t : ByteArray) : Value :=
  if code t = 2 then .tuple #[.agg #[.int .i64 (recT t).1, .int .i64 (recT t).2.1, .string (recT t).2.2], .int .i64 (sizeT t), .int .i64 0]
  else if code t = 1 then .tuple #[nilRec, .int .i64 0, .int .i64 7] else .tuple #[nilRec, .int .i64 0, .int .i64 0]

theorem first_any (t : ByteArray) (w : World) (hmax : (t.size : Int) ≤ 1000000000000) :
    Calls Try.prog 72 #[.string t] w fun r w' => r = .returned (firstV t) ∧ Below w.heap.size w w' := by
  have hd := hd_bd t
  by_cases h1 : (t.size : Int) < 8
  · have : code t = 0 := by simp [code, h1]
    simpa [firstV, this] using first_no t w h1
  · cases h2 : badT t
    · by_cases h3 : (t.size : Int) < 8 + hLen t + hPad t
      · have : code t = 0 := by simp [code, h1, h2, h3]
        simpa [firstV, this] using first_part t w (by omega) hmax h2 h3
      · have : code t = 2 := by simp [code, h1, h2, h3]
        have e : ((sizeT t : Nat) : Int) = 8 + hLen t + hPad t := by unfold sizeT; omega
        simpa [firstV, this, e, recT] using first_yes t w (by omega) hmax h2 (by omega)
    · have : code t = 1 := by simp [code, h1, h2]
      simpa [firstV, this] using first_bad t w (by omega) hmax h2

theorem rowOf_length (l : List Rec) : (rowOf l).length = l.length * 3 := by
  induction l with
  | nil => rfl
  | cons r l ih => simp only [rowOf, List.flatMap_cons, List.length_append, List.length_cons] at ih ⊢; rw [ih]; simp [rcells]; omega

theorem rowOf_append (a b : List Rec) : rowOf (a ++ b) = rowOf a ++ rowOf b := by simp [rowOf]

theorem rowOf_one (r : Rec) : rowOf [r] = rcells r := by simp [rowOf]

theorem rowOf_get (l : List Rec) (k : Nat) (hk : k < l.length) : (rowOf l)[3 * k]? = some (.int .i64 l[k].1) ∧ (rowOf l)[3 * k + 1]? = some (.int .i64 l[k].2.1) ∧ (rowOf l)[3 * k + 2]? = some (.string l[k].2.2) := by
  induction l generalizing k with
  | nil => simp at hk
  | cons r l ih =>
    cases k with
    | zero => simp [rowOf, rcells]
    | succ k =>
      have := ih k (by simpa using hk)
      have e : rowOf (r :: l) = .int .i64 r.1 :: .int .i64 r.2.1 :: .string r.2.2 :: rowOf l := by simp [rowOf, rcells]
      rw [e, show 3 * (k + 1) = 3 * k + 1 + 1 + 1 from by omega, show 3 * k + 1 + 1 + 1 + 1 = 3 * k + 1 + 1 + 1 + 1 from rfl]
      simpa using this

end Go.Proofs.Ytlafkpaljibonaa
