import Derived.Test.YtlafkpaljibonaaA
import Derived.Lib.AppendStr
import Derived.Laws.BytesArg
import Derived.Laws.IdiomStrings
namespace Go.Proofs.Ytlafkpaljibonaa
open Go.RowKit

def allowedB (k i n : Int) : Bool := isKindB k && decide (1 ≤ i) && decide (i ≤ 65535) && decide (n ≤ 200)

theorem isKindB_bd {k : Int} (h : isKindB k = true) : 1 ≤ k ∧ k ≤ 6 := by
  simp only [isKindB, Bool.or_eq_true, beq_iff_eq] at h; omega

theorem allowedB_bd {k i n : Int} (h : allowedB k i n = true) : isKindB k = true ∧ 1 ≤ k ∧ k ≤ 6 ∧ 1 ≤ i ∧ i ≤ 65535 ∧ n ≤ 200 := by
  simp only [allowedB, Bool.and_eq_true, decide_eq_true_eq] at h
  obtain ⟨⟨⟨h1, h2⟩, h3⟩, h4⟩ := h
  have := isKindB_bd h1
  exact ⟨h1, this.1, this.2, h2, h3, h4⟩

set_option maxRecDepth 100000 in
set_option maxHeartbeats 400000 in
theorem allowed_any (k i n : Int) (w : World) :
    Calls Try.prog 70 #[.int .i64 k, .int .i64 i, .int .i64 n] w fun r w' => r = .returned (.bool (allowedB k i n)) ∧ w' = w := by
  unfold allowedB
  cases hk : isKindB k
  all_goals
    go_enter Try.func70, Try.ntmps70
    go_wp2_with (go_at_call 94; refine (isKind_any _ _).mono ?_; rintro e w' ⟨rfl, rfl⟩; rw [hk])
    all_goals (go_ret; exact ⟨by simp [*] <;> omega, rfl⟩)

/-- The bytes of a string as numbers. -/
def nums (s : ByteArray) : List Int := s.data.toList.map fun b => (b.toNat : Int)

theorem strCells_nums (s : ByteArray) : Lib.strCells s = (nums s).map (Value.int .u8) := by
  simp [Lib.strCells, nums]

theorem nums_length (s : ByteArray) : (nums s).length = s.size := by
  rw [nums, List.length_map, Array.length_toList]; rfl

/-- A record as bytes, with its padding. -/
def enc (k i : Int) (c : ByteArray) (p : List Int) : ByteArray :=
  strOfNums ([1, k, i / 256, i % 256, 0, (c.size : Int), (p.length : Int), 0] ++ nums c ++ p)

theorem info5 : (Try.prog.info? 5).map (fun i => (i.zero, i.size, i.bytes)) = some (some (.int .u8 0), 1, 1) := by kernel_rfl

/-- 'string(b)' of a row of bytes that the call owns. -/
theorem convert_own (w : World) (base : Nat) (v : Value) (n : Nat) (xs : List Int) (h : w.ownsRow base 5 1 v n (xs.map (Value.int .u8))) :
    (convert 86 9 v).run Try.prog w = .ok (.string (strOfNums xs)) w := by
  obtain ⟨hl, hc⟩ := h
  rcases hc with ⟨rfl, rfl⟩ | ⟨g, cap, cur, rfl, hb, hg, hn, hm, hs, ht⟩
  · have : xs = [] := by cases xs <;> simp_all
    subst this
    exact run_convert_bytes_nil w 86 5 Try.underlying86 Try.underlying5 0 0 _ Try.underlying9
  · refine run_convert_bytes_arg w 86 5 Try.underlying86 Try.underlying5 g 0 n cap xs (by simpa using hl) ?_ _ Try.underlying9
    intro i hi
    rw [Nat.zero_add, cell_of_row w g i cur 5 (0, 0) hg]
    have h2 : cur.toList[i]? = (cur.toList.take (n * 1))[i]? := by rw [List.getElem?_take, if_pos (by omega)]
    have h3 : i < xs.length := by have := hl; simp at this; omega
    rw [← Array.getElem?_toList, h2, ht]
    simp [List.getElem?_map, List.getElem?_eq_getElem h3, List.getD]

/-- A row of bytes that the call has just laid. -/
theorem own_lit (W : World) (g : Nat) (hg : W.heap.size = g) (n : Nat) (xs : List Int) (arr : Array Value) (ha : arr.toList = xs.map (Value.int .u8)) (hn : xs.length = n) (hm : n ≤ 1000) :
    (W.alloc (.cells arr 5)).ownsRow g 5 1 (.slice (some ⟨g, 0, none⟩) n n) n (xs.map (Value.int .u8)) := by
  subst hg
  rw [← ha]
  refine World.ownsRow_lit W arr n (Nat.le_refl _) (by unfold maxLen; omega) ?_
  rw [← Array.length_toList, ha, List.length_map]; omega

theorem conv_lit (W : World) (g : Nat) (hg : W.heap.size = g) (n : Nat) (xs : List Int) (arr : Array Value) (ha : arr.toList = xs.map (Value.int .u8)) (hn : xs.length = n) (hm : n ≤ 1000) :
    (convert 86 9 (.slice (some ⟨g, 0, none⟩) n n)).run Try.prog (W.alloc (.cells arr 5)) = .ok (.string (strOfNums xs)) (W.alloc (.cells arr 5)) :=
  convert_own _ g _ n xs (own_lit W g hg n xs arr ha hn hm)

theorem strOfNums_append (a b : List Int) : strOfNums a ++ strOfNums b = strOfNums (a ++ b) := by
  simp only [strOfNums, List.map_append]
  apply ByteArray.ext
  simp

theorem strOfNums_nums (c : ByteArray) : strOfNums (nums c) = c := by
  apply ByteArray.ext
  simp [strOfNums, nums, Function.comp_def]

theorem enc_eq (k i : Int) (c : ByteArray) : strOfNums [1, k, i / 256, i % 256, 0, (c.size : Int), 0, 0] ++ c = enc k i c [] := by
  have h := strOfNums_append [1, k, i / 256, i % 256, 0, (c.size : Int), 0, 0] (nums c)
  rw [strOfNums_nums] at h
  rw [h]; simp [enc]

theorem grown_own {w w' : World} {v : Value} (hg : w.grownBy w' v.ownBlock) {B : Nat} (hB : B ≤ w.heap.size) (hv : ∀ k, v.ownBlock = some k → B ≤ k) : Below B w w' :=
  (Below.refl B w).grown hg hB hv

set_option maxRecDepth 100000 in
set_option maxHeartbeats 400000 in
theorem encode_yes (k i : Int) (c : ByteArray) (w : World) (h : allowedB k i c.size = true) :
    Calls Try.prog 44 #[.agg #[.int .i64 k, .int .i64 i, .string c]] w fun r w' => r = .returned (.tuple #[.string (enc k i c []), .int .i64 0]) ∧ Below w.heap.size w w' := by
  obtain ⟨i0, hi, hz0, hz1, hz2⟩ := info_parts info5
  obtain ⟨-, h1, h2, h3, h4, h5⟩ := allowedB_bd h
  have hd : (c.size : Int) / 256 = 0 := by omega
  have hm : (c.size : Int) % 256 = c.size := by omega
  go_enter Try.func44, Try.ntmps44
  go_wp2_with (first | (go_at_call 70; refine (allowed_any _ _ _ _).mono ?_; rintro e w' ⟨rfl, rfl⟩; rw [h]) | (at_builtin; refine Lib.wpList_append_own_string _ rfl _ _ 86 9 rfl (w.heap.size + 1) 5 i0 Try.underlying86 Try.underlying9 hi hz0 hz1 hz2 _ 8 ([1, k, i / 256, i % 256, 0, (c.size : Int), 0, 0].map (Value.int .u8)) rfl ?hown c rfl ?c3 ?c4 ?c5 ?_))
  case hown => exact own_lit (w.alloc _) (w.heap.size + 1) (by simp) 8 _ _ rfl rfl (by omega)
  case c3 => unfold maxLen; omega
  case c4 => omega
  case c5 => simp
  intro v' w2 hown hgrow _
  have hcv := convert_own w2 _ v' _ ([1, k, i / 256, i % 256, 0, (c.size : Int), 0, 0] ++ nums c) (by rw [List.map_append, ← strCells_nums]; exact hown)
  go_wp2
  go_ret2
  refine ⟨by simp [enc], ?_⟩
  refine (((Below.refl _ _).alloc (Nat.le_refl _) _).alloc (by simp) _).trans ((grown_own hgrow (B := w.heap.size) (by simp; omega) ?_))
  intro k hk
  simp [Value.ownBlock] at hk
  omega

set_option maxRecDepth 100000 in
set_option maxHeartbeats 400000 in
theorem encode_no (k i : Int) (c : ByteArray) (w : World) (h : allowedB k i c.size = false) :
    Calls Try.prog 44 #[.agg #[.int .i64 k, .int .i64 i, .string c]] w fun r w' => r = .returned (.tuple #[.string ByteArray.empty, .int .i64 7]) ∧ Below w.heap.size w w' := by
  go_enter Try.func44, Try.ntmps44
  go_wp2_with (go_at_call 70; refine (allowed_any _ _ _ _).mono ?_; rintro e w' ⟨rfl, rfl⟩; rw [h])
  go_ret2
  exact ⟨rfl, (Below.refl _ _).alloc (Nat.le_refl _) _⟩

/-- What Encode answers: the bytes, and the error. -/
def encB (k i : Int) (c : ByteArray) : ByteArray := if allowedB k i c.size then enc k i c [] else ByteArray.empty
def encE (k i : Int) (c : ByteArray) : Int := if allowedB k i c.size then 0 else 7

theorem encode_any (k i : Int) (c : ByteArray) (w : World) :
    Calls Try.prog 44 #[.agg #[.int .i64 k, .int .i64 i, .string c]] w fun r w' => r = .returned (.tuple #[.string (encB k i c), .int .i64 (encE k i c)]) ∧ Below w.heap.size w w' := by
  cases h : allowedB k i c.size
  · simpa [encB, encE, h] using encode_no k i c w h
  · simpa [encB, encE, h] using encode_yes k i c w h

set_option maxRecDepth 100000 in
set_option maxHeartbeats 400000 in
theorem fEncode_any (k i : Int) (c : ByteArray) (w : World) :
    Calls Try.prog 10 #[.agg #[.int .i64 k, .int .i64 i, .string c]] w fun r w' => r = .returned (.tuple #[.string (encB k i c), .int .i64 (encE k i c)]) ∧ Below w.heap.size w w' := by
  go_enter Try.func10, Try.ntmps10
  go_wp2_with (go_at_call 44; refine (encode_any _ _ _ _).mono ?_; rintro e w' ⟨rfl, hb⟩)
  go_ret2
  exact ⟨rfl, ((Below.refl _ _).alloc (Nat.le_refl _) _).trans (hb.mono (by simp))⟩

set_option maxRecDepth 100000 in
set_option maxHeartbeats 800000 in
theorem refEncode_yes (k i : Int) (c : ByteArray) (w : World) (h : allowedB k i c.size = true) :
    Calls Try.prog 11 #[.agg #[.int .i64 k, .int .i64 i, .string c]] w fun r w' => r = .returned (.tuple #[.string (enc k i c []), .int .i64 0]) ∧ Below w.heap.size w w' := by
  obtain ⟨h0, h1, h2, h3, h4, h5⟩ := allowedB_bd h
  have hm : (c.size : Int) % 256 = c.size := by omega
  have hcv := conv_lit (w.alloc (.cells #[.int .i64 k, .int .i64 i, .string c] 23)) (w.heap.size + 1) (by simp) 8 [1, k, i / 256, i % 256, 0, (c.size : Int), 0, 0] #[.int .u8 1, .int .u8 k, .int .u8 (i / 256), .int .u8 (i % 256), .int .u8 0, .int .u8 c.size, .int .u8 0, .int .u8 0] rfl rfl (by omega)
  have hsz : (strOfNums [1, k, i / 256, i % 256, 0, (c.size : Int), 0, 0]).size = 8 := by simp [strOfNums_size]
  go_enter Try.func11, Try.ntmps11
  go_wp2_with (go_at_call 45; refine (refIsKind_any _ _).mono ?_; rintro e w' ⟨rfl, rfl⟩; rw [h0])
  go_ret2
  refine ⟨?_, ((Below.refl _ _).alloc (Nat.le_refl _) _).alloc (by simp) _⟩
  rw [enc_eq]; rfl

set_option maxRecDepth 100000 in
set_option maxHeartbeats 800000 in
theorem refEncode_no (k i : Int) (c : ByteArray) (w : World) (h : allowedB k i c.size = false) :
    Calls Try.prog 11 #[.agg #[.int .i64 k, .int .i64 i, .string c]] w fun r w' => r = .returned (.tuple #[.string ByteArray.empty, .int .i64 7]) ∧ Below w.heap.size w w' := by
  cases h0 : isKindB k
  · go_enter Try.func11, Try.ntmps11
    go_wp2_with (go_at_call 45; refine (refIsKind_any _ _).mono ?_; rintro e w' ⟨rfl, rfl⟩; rw [h0])
    go_ret2
    exact ⟨rfl, ((Below.refl _ _).alloc (Nat.le_refl _) _)⟩
  · have h1 : i < 1 ∨ 65535 < i ∨ 200 < (c.size : Int) := by
      simp only [allowedB, h0, Bool.true_and, Bool.and_eq_false_iff, decide_eq_false_iff_not] at h
      omega
    clear h
    by_cases g1 : i < 1
    · go_enter Try.func11, Try.ntmps11
      go_wp2_with (go_at_call 45; refine (refIsKind_any _ _).mono ?_; rintro e w' ⟨rfl, rfl⟩; rw [h0])
      go_ret2
      exact ⟨rfl, ((Below.refl _ _).alloc (Nat.le_refl _) _)⟩
    · by_cases g2 : 65535 < i
      · go_enter Try.func11, Try.ntmps11
        go_wp2_with (go_at_call 45; refine (refIsKind_any _ _).mono ?_; rintro e w' ⟨rfl, rfl⟩; rw [h0])
        go_ret2
        exact ⟨rfl, ((Below.refl _ _).alloc (Nat.le_refl _) _)⟩
      · have g3 : 200 < (c.size : Int) := by omega
        clear h1
        go_enter Try.func11, Try.ntmps11
        go_wp2_with (go_at_call 45; refine (refIsKind_any _ _).mono ?_; rintro e w' ⟨rfl, rfl⟩; rw [h0])
        go_ret2
        exact ⟨rfl, ((Below.refl _ _).alloc (Nat.le_refl _) _)⟩

theorem refEncode_any (k i : Int) (c : ByteArray) (w : World) :
    Calls Try.prog 11 #[.agg #[.int .i64 k, .int .i64 i, .string c]] w fun r w' => r = .returned (.tuple #[.string (encB k i c), .int .i64 (encE k i c)]) ∧ Below w.heap.size w w' := by
  cases h : allowedB k i c.size
  · simpa [encB, encE, h] using refEncode_no k i c w h
  · simpa [encB, encE, h] using refEncode_yes k i c w h
end Go.Proofs.Ytlafkpaljibonaa
