import Derived.Test.YtlafkpaljibonabRows
import Derived.WalkKit
import Derived.WalkSpells
import Derived.WalkLawsBesides
import Derived.BigQuiet
import Derived.Deep.QuietTactic
import Derived.Lib.AppendStr
import Derived.Laws.BytesArg
import Derived.Laws.IdiomStrings
import Derived.Deep.RegionHeld3
import Derived.BigRegion
import Derived.Deep.AppendLies
import Derived.Laws.StructEq
namespace Go.Proofs.Ytlafkpaljibonab
open Go.RowKit

def isKindB (k : Int) : Bool := k == 1 || k == 2 || k == 3 || k == 5 || k == 6

set_option maxRecDepth 100000 in
set_option maxHeartbeats 400000 in
theorem isKind_any (k : Int) (w : World) :
    Calls Try.prog 86 #[.int .i64 k] w fun r w' => r = .returned (.bool (isKindB k)) ∧ w' = w := by
  unfold isKindB
  go_enter Try.func86, Try.ntmps86
  go_wp2
  all_goals (go_ret; exact ⟨by simp [*], rfl⟩)

end Go.Proofs.Ytlafkpaljibonab

namespace Go.Proofs.Ytlafkpaljibonab
open Go.RowKit

def allowedB (k i n : Int) : Bool := isKindB k && decide (1 ≤ i) && decide (i ≤ 65535) && decide (n ≤ 200)

theorem isKindB_bd {k : Int} (h : isKindB k = true) : 1 ≤ k ∧ k ≤ 6 := by
  simp only [isKindB, Bool.or_eq_true, beq_iff_eq] at h; omega

theorem allowedB_bd {k i n : Int} (h : allowedB k i n = true) : isKindB k = true ∧ 1 ≤ k ∧ k ≤ 6 ∧ 1 ≤ i ∧ i ≤ 65535 ∧ n ≤ 200 := by
  simp only [allowedB, Bool.and_eq_true, decide_eq_true_eq] at h
  obtain ⟨⟨⟨h1, h2⟩, h3⟩, h4⟩ := h
  have := isKindB_bd h1
  exact ⟨h1, this.1, this.2, h2, h3, h4⟩

set_option maxRecDepth 100000 in
set_option maxHeartbeats 400000 in
theorem allowed_any (k i n : Int) (w : World) :
    Calls Try.prog 84 #[.int .i64 k, .int .i64 i, .int .i64 n] w fun r w' => r = .returned (.bool (allowedB k i n)) ∧ w' = w := by
  unfold allowedB
  cases hk : isKindB k
  all_goals
    go_enter Try.func84, Try.ntmps84
    go_wp2_with (go_at_call 86; refine (isKind_any _ _).mono ?_; rintro e w' ⟨rfl, rfl⟩; rw [hk])
    all_goals (go_ret; exact ⟨by simp [*] <;> omega, rfl⟩)

/-- The bytes of a string as numbers. -/
def nums (s : ByteArray) : List Int := s.data.toList.map fun b => (b.toNat : Int)

theorem strCells_nums (s : ByteArray) : Lib.strCells s = (nums s).map (Value.int .u8) := by
  simp [Lib.strCells, nums]

theorem nums_length (s : ByteArray) : (nums s).length = s.size := by
  rw [nums, List.length_map, Array.length_toList]; rfl

/-- A record as bytes, with its padding. -/
def enc (k i : Int) (c : ByteArray) (p : List Int) : ByteArray :=
  strOfNums ([1, k, i / 256, i % 256, 0, (c.size : Int), (p.length : Int), 0] ++ nums c ++ p)

theorem info5 : (Try.prog.info? 5).map (fun i => (i.zero, i.size, i.bytes)) = some (some (.int .u8 0), 1, 1) := by kernel_rfl

/-- 'string(b)' of a row of bytes that the call owns. -/
theorem convert_own (w : World) (base : Nat) (v : Value) (n : Nat) (xs : List Int) (h : w.ownsRow base 5 1 v n (xs.map (Value.int .u8))) :
    (convert 56 9 v).run Try.prog w = .ok (.string (strOfNums xs)) w := by
  obtain ⟨hl, hc⟩ := h
  rcases hc with ⟨rfl, rfl⟩ | ⟨g, cap, cur, rfl, hb, hg, hn, hm, hs, ht⟩
  · have : xs = [] := by cases xs <;> simp_all
    subst this
    exact run_convert_bytes_nil w 56 5 Try.underlying56 Try.underlying5 0 0 _ Try.underlying9
  · refine run_convert_bytes_arg w 56 5 Try.underlying56 Try.underlying5 g 0 n cap xs (by simpa using hl) ?_ _ Try.underlying9
    intro i hi
    rw [Nat.zero_add, cell_of_row w g i cur 5 (0, 0) hg]
    have h2 : cur.toList[i]? = (cur.toList.take (n * 1))[i]? := by rw [List.getElem?_take, if_pos (by omega)]
    have h3 : i < xs.length := by have := hl; simp at this; omega
    rw [← Array.getElem?_toList, h2, ht]
    simp [List.getElem?_map, List.getElem?_eq_getElem h3, List.getD]

/-- A row of bytes that the call has just laid. -/
theorem own_lit (W : World) (g : Nat) (hg : W.heap.size = g) (n : Nat) (xs : List Int) (arr : Array Value) (ha : arr.toList = xs.map (Value.int .u8)) (hn : xs.length = n) (hm : n ≤ 1000) :
    (W.alloc (.cells arr 5)).ownsRow g 5 1 (.slice (some ⟨g, 0, none⟩) n n) n (xs.map (Value.int .u8)) := by
  subst hg
  rw [← ha]
  refine World.ownsRow_lit W arr n (Nat.le_refl _) (by unfold maxLen; omega) ?_
  rw [← Array.length_toList, ha, List.length_map]; omega

theorem conv_lit (W : World) (g : Nat) (hg : W.heap.size = g) (n : Nat) (xs : List Int) (arr : Array Value) (ha : arr.toList = xs.map (Value.int .u8)) (hn : xs.length = n) (hm : n ≤ 1000) :
    (convert 56 9 (.slice (some ⟨g, 0, none⟩) n n)).run Try.prog (W.alloc (.cells arr 5)) = .ok (.string (strOfNums xs)) (W.alloc (.cells arr 5)) :=
  convert_own _ g _ n xs (own_lit W g hg n xs arr ha hn hm)

theorem strOfNums_append (a b : List Int) : strOfNums a ++ strOfNums b = strOfNums (a ++ b) := by
  simp only [strOfNums, List.map_append]
  apply ByteArray.ext
  simp

theorem strOfNums_nums (c : ByteArray) : strOfNums (nums c) = c := by
  apply ByteArray.ext
  simp [strOfNums, nums, Function.comp_def]

theorem enc_eq (k i : Int) (c : ByteArray) : strOfNums [1, k, i / 256, i % 256, 0, (c.size : Int), 0, 0] ++ c = enc k i c [] := by
  have h := strOfNums_append [1, k, i / 256, i % 256, 0, (c.size : Int), 0, 0] (nums c)
  rw [strOfNums_nums] at h
  rw [h]; simp [enc]

theorem grown_own {w w' : World} {v : Value} (hg : w.grownBy w' v.ownBlock) {B : Nat} (hB : B ≤ w.heap.size) (hv : ∀ k, v.ownBlock = some k → B ≤ k) : Below B w w' :=
  (Below.refl B w).grown hg hB hv

set_option maxRecDepth 100000 in
set_option maxHeartbeats 400000 in
theorem encode_yes (k i : Int) (c : ByteArray) (w : World) (h : allowedB k i c.size = true) :
    Calls Try.prog 81 #[.agg #[.int .i64 k, .int .i64 i, .string c]] w fun r w' => r = .returned (.tuple #[.string (enc k i c []), .int .i64 0]) ∧ Below w.heap.size w w' := by
  obtain ⟨i0, hi, hz0, hz1, hz2⟩ := info_parts info5
  obtain ⟨-, h1, h2, h3, h4, h5⟩ := allowedB_bd h
  have hd : (c.size : Int) / 256 = 0 := by omega
  have hm : (c.size : Int) % 256 = c.size := by omega
  go_enter Try.func81, Try.ntmps81
  go_wp2_with (first | (go_at_call 84; refine (allowed_any _ _ _ _).mono ?_; rintro e w' ⟨rfl, rfl⟩; rw [h]) | (at_builtin; refine Lib.wpList_append_own_string _ rfl _ _ 56 9 rfl (w.heap.size + 1) 5 i0 Try.underlying56 Try.underlying9 hi hz0 hz1 hz2 _ 8 ([1, k, i / 256, i % 256, 0, (c.size : Int), 0, 0].map (Value.int .u8)) rfl ?hown c rfl ?c3 ?c4 ?c5 ?_))
  case hown => exact own_lit (w.alloc _) (w.heap.size + 1) (by simp) 8 _ _ rfl rfl (by omega)
  case c3 => unfold maxLen; omega
  case c4 => omega
  case c5 => simp
  intro v' w2 hown hgrow _
  have hcv := convert_own w2 _ v' _ ([1, k, i / 256, i % 256, 0, (c.size : Int), 0, 0] ++ nums c) (by rw [List.map_append, ← strCells_nums]; exact hown)
  go_wp2
  go_ret2
  refine ⟨by simp [enc], ?_⟩
  refine (((Below.refl _ _).alloc (Nat.le_refl _) _).alloc (by simp) _).trans ((grown_own hgrow (B := w.heap.size) (by simp; omega) ?_))
  intro k hk
  simp [Value.ownBlock] at hk
  omega

set_option maxRecDepth 100000 in
set_option maxHeartbeats 400000 in
theorem encode_no (k i : Int) (c : ByteArray) (w : World) (h : allowedB k i c.size = false) :
    Calls Try.prog 81 #[.agg #[.int .i64 k, .int .i64 i, .string c]] w fun r w' => r = .returned (.tuple #[.string ByteArray.empty, .int .i64 7]) ∧ Below w.heap.size w w' := by
  go_enter Try.func81, Try.ntmps81
  go_wp2_with (go_at_call 84; refine (allowed_any _ _ _ _).mono ?_; rintro e w' ⟨rfl, rfl⟩; rw [h])
  go_ret2
  exact ⟨rfl, (Below.refl _ _).alloc (Nat.le_refl _) _⟩

/-- What Encode answers: the bytes, and the error. -/
def encB (k i : Int) (c : ByteArray) : ByteArray := if allowedB k i c.size then enc k i c [] else ByteArray.empty
def encE (k i : Int) (c : ByteArray) : Int := if allowedB k i c.size then 0 else 7

theorem encode_any (k i : Int) (c : ByteArray) (w : World) :
    Calls Try.prog 81 #[.agg #[.int .i64 k, .int .i64 i, .string c]] w fun r w' => r = .returned (.tuple #[.string (encB k i c), .int .i64 (encE k i c)]) ∧ Below w.heap.size w w' := by
  cases h : allowedB k i c.size
  · simpa [encB, encE, h] using encode_no k i c w h
  · simpa [encB, encE, h] using encode_yes k i c w h

end Go.Proofs.Ytlafkpaljibonab

namespace Go.Proofs.Ytlafkpaljibonab
open Go

section
variable {P : Program} {ops : Array Oper} {Q : Exit → Act → World → Prop} {md : Region.Mode} {S : World → Prop}

theorem at_of_drop {i : Nat} {oi : Oper} {tl : List Oper} (hi : ops.toList.drop i = oi :: tl) : ops[i]? = some oi := by
  rw [← Array.getElem?_toList]
  have h : (ops.toList.drop i)[0]? = some oi := by rw [hi]; rfl
  simpa using h

/-- 'wpAnyH_take' with the operation read off the written-out region by 'rfl'. -/
theorem take_at {i : Nat} {oi : Oper} {tl : List Oper} {v : Value} {fuel : Nat} {listed : Array Bool} {a : Act} {w : World} (hi : ops.toList.drop i = oi :: tl)
    (hs : Region.noSelect ops = true) (hf : Region.free md ops listed i = true) (hr : (Region.ready md ops listed).contains i = true)
    (hQ : ∀ c a w, Q (.panic c) (a.put oi.dst v) w → Q (.panic c) a w) (hw : Region.wanted oi (yielded ops a.tmps) = true)
    (hy : ∀ w, S w → (execOp a.eval oi).run P w = .ok (.value v) w) (hS : S w)
    (h : wpAnyH P md ops Q S fuel (listed.setIfInBounds i true) (a.put oi.dst v) w) : wpAnyH P md ops Q S (fuel + 1) listed a w :=
  wpAnyH_take (at_of_drop hi) hs hf hr hQ (Or.inl ⟨hw, hy⟩) hS h

/-- A guarded operation that is not wanted. -/
theorem skip_at {i : Nat} {oi : Oper} {tl : List Oper} {fuel : Nat} {listed : Array Bool} {a : Act} {w : World} (hi : ops.toList.drop i = oi :: tl)
    (hs : Region.noSelect ops = true) (hf : Region.free md ops listed i = true) (hr : (Region.ready md ops listed).contains i = true)
    (hQ : ∀ c a w, Q (.panic c) (a.put oi.dst undef) w → Q (.panic c) a w) (hw : Region.wanted oi (yielded ops a.tmps) = false) (hS : S w)
    (h : wpAnyH P md ops Q S fuel (listed.setIfInBounds i true) (a.put oi.dst undef) w) : wpAnyH P md ops Q S (fuel + 1) listed a w :=
  wpAnyH_take (at_of_drop hi) hs hf hr hQ (Or.inr ⟨hw, rfl⟩) hS h

/-- The one operation that may come up is carried out. -/
theorem only_at {i : Nat} {oi : Oper} {tl : List Oper} {fuel : Nat} {listed : Array Bool} {a : Act} {w : World} (hi : ops.toList.drop i = oi :: tl)
    (hr : Region.ready md ops listed = [i]) (hw : Region.wanted oi (yielded ops a.tmps) = true)
    (h : ∀ K' : Act → World → Prop, Shut (∀ a w, S w → wpAnyH P md ops Q S fuel (listed.setIfInBounds i true) a w → K' a w) → Oper.wp P oi a w K' Q) :
    wpAnyH P md ops Q S (fuel + 1) listed a w := by
  refine wpAnyH_ready hr (by simp) (AllReadyH.cons (at_of_drop hi) (fun K' hK => ?_) AllReadyH.nil)
  rw [if_pos hw]
  exact h K' (fun a w hS hW => hK.out a w hS (fun _ => hW))

end
end Go.Proofs.Ytlafkpaljibonab

namespace Go.Proofs.Ytlafkpaljibonab
open Go.RowKit

/-- A string's byte as a number. -/
def byt (t : ByteArray) (j : Nat) : Int := ((t.data.getD j 0).toNat : Int)

theorem byt_bd (t : ByteArray) (j : Nat) : 0 ≤ byt t j ∧ byt t j ≤ 255 := by
  have := (t.data.getD j 0).toNat_lt
  simp only [byt]; omega

theorem byt_get (t : ByteArray) (j : Nat) (h : j < t.size) : (t[j].toNat : Int) = byt t j := by
  have h2 : j < t.data.size := h
  simp only [byt, Array.getD, h2, dite_true]
  rfl

theorem run_byt (t : ByteArray) (j : Nat) (h : j < t.size) (w : World) : (Instr.index 9 (.string t) (.int .i64 j)).run Try.prog w = .ok (.int .u8 (byt t j)) w := by
  rw [← byt_get t j h]
  simp [go_sem, h]

set_option maxRecDepth 100000 in
set_option maxHeartbeats 1000000 in
theorem readHead_no (t : ByteArray) (w : World) (h : (t.size : Int) < 8) :
    Calls Try.prog 70 #[.string t] w fun r w' => r = .returned (.tuple #[.agg #[.int .i64 0, .int .i64 0, .int .i64 0, .int .i64 0, .int .i64 0, .int .i64 0], .bool false]) ∧ Below w.heap.size w w' := by
  go_enter Try.func70, Try.ntmps70
  go_wp2
  exact bodyPost_ret (v := .tuple #[.agg #[.int .i64 0, .int .i64 0, .int .i64 0, .int .i64 0, .int .i64 0, .int .i64 0], .bool false]) (by simp [results, Try.results70, go_sem]) rfl ⟨rfl, (Below.refl _ _).alloc (Nat.le_refl _) _⟩

set_option maxRecDepth 100000 in
set_option maxHeartbeats 1000000 in
theorem readHead_yes (t : ByteArray) (w : World) (h : 8 ≤ (t.size : Int)) (hmax : (t.size : Int) ≤ 1000000000000) :
    Calls Try.prog 70 #[.string t] w fun r w' => r = .returned (.tuple #[.agg #[.int .i64 (byt t 0), .int .i64 (byt t 1), .int .i64 (byt t 2 * 256 + byt t 3), .int .i64 (byt t 4 * 256 + byt t 5), .int .i64 (byt t 6), .int .i64 (byt t 7)], .bool true]) ∧ Below w.heap.size w w' := by
  have g0 : ∀ w, (Instr.index 9 (.string t) (.int .i64 0)).run Try.prog w = .ok (.int .u8 (byt t 0)) w := fun w => run_byt t 0 (by omega) w
  have g1 : ∀ w, (Instr.index 9 (.string t) (.int .i64 1)).run Try.prog w = .ok (.int .u8 (byt t 1)) w := fun w => run_byt t 1 (by omega) w
  have g2 : ∀ w, (Instr.index 9 (.string t) (.int .i64 2)).run Try.prog w = .ok (.int .u8 (byt t 2)) w := fun w => run_byt t 2 (by omega) w
  have g3 : ∀ w, (Instr.index 9 (.string t) (.int .i64 3)).run Try.prog w = .ok (.int .u8 (byt t 3)) w := fun w => run_byt t 3 (by omega) w
  have g4 : ∀ w, (Instr.index 9 (.string t) (.int .i64 4)).run Try.prog w = .ok (.int .u8 (byt t 4)) w := fun w => run_byt t 4 (by omega) w
  have g5 : ∀ w, (Instr.index 9 (.string t) (.int .i64 5)).run Try.prog w = .ok (.int .u8 (byt t 5)) w := fun w => run_byt t 5 (by omega) w
  have g6 : ∀ w, (Instr.index 9 (.string t) (.int .i64 6)).run Try.prog w = .ok (.int .u8 (byt t 6)) w := fun w => run_byt t 6 (by omega) w
  have g7 : ∀ w, (Instr.index 9 (.string t) (.int .i64 7)).run Try.prog w = .ok (.int .u8 (byt t 7)) w := fun w => run_byt t 7 (by omega) w
  have b0 := byt_bd t 0
  have b1 := byt_bd t 1
  have b2 := byt_bd t 2
  have b3 := byt_bd t 3
  have b4 := byt_bd t 4
  have b5 := byt_bd t 5
  have b6 := byt_bd t 6
  have b7 := byt_bd t 7
  go_enter Try.func70, Try.ntmps70
  go_wp2
  refine wp_region_noPanic ?_
  refine wp_region_held_drew (S := fun _ => True) (by kernel_rfl) trivial (fun hHeld => ?_)
  refine take_at (i := 0) (v := ?tv0) rfl (by kernel_rfl) (by kernel_rfl) (by kernel_rfl) (fun _ _ _ h => h) (by rfl) ?ty0 (by assumption) ?tr0
  case ty0 => (intro w hSw; go_simp; with_reducible rfl)
  simp only [Act.put, List.setIfInBounds_toArray, List.set_cons_zero, List.set_cons_succ]
  refine take_at (i := 1) (v := ?tv1) rfl (by kernel_rfl) (by kernel_rfl) (by kernel_rfl) (fun _ _ _ h => h) (by rfl) ?ty1 (by assumption) ?tr1
  case ty1 => (intro w hSw; go_simp; with_reducible rfl)
  simp only [Act.put, List.setIfInBounds_toArray, List.set_cons_zero, List.set_cons_succ]
  refine take_at (i := 2) (v := ?tv2) rfl (by kernel_rfl) (by kernel_rfl) (by kernel_rfl) (fun _ _ _ h => h) (by rfl) ?ty2 (by assumption) ?tr2
  case ty2 => (intro w hSw; go_simp; with_reducible rfl)
  simp only [Act.put, List.setIfInBounds_toArray, List.set_cons_zero, List.set_cons_succ]
  refine take_at (i := 3) (v := ?tv3) rfl (by kernel_rfl) (by kernel_rfl) (by kernel_rfl) (fun _ _ _ h => h) (by rfl) ?ty3 (by assumption) ?tr3
  case ty3 => (intro w hSw; go_simp; with_reducible rfl)
  simp only [Act.put, List.setIfInBounds_toArray, List.set_cons_zero, List.set_cons_succ]
  refine take_at (i := 4) (v := ?tv4) rfl (by kernel_rfl) (by kernel_rfl) (by kernel_rfl) (fun _ _ _ h => h) (by rfl) ?ty4 (by assumption) ?tr4
  case ty4 => (intro w hSw; go_simp; with_reducible rfl)
  simp only [Act.put, List.setIfInBounds_toArray, List.set_cons_zero, List.set_cons_succ]
  refine take_at (i := 5) (v := ?tv5) rfl (by kernel_rfl) (by kernel_rfl) (by kernel_rfl) (fun _ _ _ h => h) (by rfl) ?ty5 (by assumption) ?tr5
  case ty5 => (intro w hSw; go_simp; with_reducible rfl)
  simp only [Act.put, List.setIfInBounds_toArray, List.set_cons_zero, List.set_cons_succ]
  refine take_at (i := 6) (v := ?tv6) rfl (by kernel_rfl) (by kernel_rfl) (by kernel_rfl) (fun _ _ _ h => h) (by rfl) ?ty6 (by assumption) ?tr6
  case ty6 => (intro w hSw; go_simp; with_reducible rfl)
  simp only [Act.put, List.setIfInBounds_toArray, List.set_cons_zero, List.set_cons_succ]
  refine take_at (i := 7) (v := ?tv7) rfl (by kernel_rfl) (by kernel_rfl) (by kernel_rfl) (fun _ _ _ h => h) (by rfl) ?ty7 (by assumption) ?tr7
  case ty7 => (intro w hSw; go_simp; with_reducible rfl)
  simp only [Act.put, List.setIfInBounds_toArray, List.set_cons_zero, List.set_cons_succ]
  refine take_at (i := 8) (v := ?tv8) rfl (by kernel_rfl) (by kernel_rfl) (by kernel_rfl) (fun _ _ _ h => h) (by rfl) ?ty8 (by assumption) ?tr8
  case ty8 => (intro w hSw; go_simp; with_reducible rfl)
  simp only [Act.put, List.setIfInBounds_toArray, List.set_cons_zero, List.set_cons_succ]
  refine take_at (i := 9) (v := ?tv9) rfl (by kernel_rfl) (by kernel_rfl) (by kernel_rfl) (fun _ _ _ h => h) (by rfl) ?ty9 (by assumption) ?tr9
  case ty9 => (intro w hSw; go_simp; with_reducible rfl)
  simp only [Act.put, List.setIfInBounds_toArray, List.set_cons_zero, List.set_cons_succ]
  refine take_at (i := 10) (v := ?tv10) rfl (by kernel_rfl) (by kernel_rfl) (by kernel_rfl) (fun _ _ _ h => h) (by rfl) ?ty10 (by assumption) ?tr10
  case ty10 => (intro w hSw; go_simp; with_reducible rfl)
  simp only [Act.put, List.setIfInBounds_toArray, List.set_cons_zero, List.set_cons_succ]
  refine take_at (i := 11) (v := ?tv11) rfl (by kernel_rfl) (by kernel_rfl) (by kernel_rfl) (fun _ _ _ h => h) (by rfl) ?ty11 (by assumption) ?tr11
  case ty11 => (intro w hSw; go_simp; with_reducible rfl)
  simp only [Act.put, List.setIfInBounds_toArray, List.set_cons_zero, List.set_cons_succ]
  refine take_at (i := 12) (v := ?tv12) rfl (by kernel_rfl) (by kernel_rfl) (by kernel_rfl) (fun _ _ _ h => h) (by rfl) ?ty12 (by assumption) ?tr12
  case ty12 => (intro w hSw; go_simp; with_reducible rfl)
  simp only [Act.put, List.setIfInBounds_toArray, List.set_cons_zero, List.set_cons_succ]
  refine take_at (i := 13) (v := ?tv13) rfl (by kernel_rfl) (by kernel_rfl) (by kernel_rfl) (fun _ _ _ h => h) (by rfl) ?ty13 (by assumption) ?tr13
  case ty13 => (intro w hSw; go_simp; with_reducible rfl)
  simp only [Act.put, List.setIfInBounds_toArray, List.set_cons_zero, List.set_cons_succ]
  refine take_at (i := 14) (v := ?tv14) rfl (by kernel_rfl) (by kernel_rfl) (by kernel_rfl) (fun _ _ _ h => h) (by rfl) ?ty14 (by assumption) ?tr14
  case ty14 => (intro w hSw; go_simp; with_reducible rfl)
  simp only [Act.put, List.setIfInBounds_toArray, List.set_cons_zero, List.set_cons_succ]
  refine take_at (i := 15) (v := ?tv15) rfl (by kernel_rfl) (by kernel_rfl) (by kernel_rfl) (fun _ _ _ h => h) (by rfl) ?ty15 (by assumption) ?tr15
  case ty15 => (intro w hSw; go_simp; with_reducible rfl)
  simp only [Act.put, List.setIfInBounds_toArray, List.set_cons_zero, List.set_cons_succ]
  refine take_at (i := 16) (v := ?tv16) rfl (by kernel_rfl) (by kernel_rfl) (by kernel_rfl) (fun _ _ _ h => h) (by rfl) ?ty16 (by assumption) ?tr16
  case ty16 => (intro w hSw; go_simp; with_reducible rfl)
  simp only [Act.put, List.setIfInBounds_toArray, List.set_cons_zero, List.set_cons_succ]
  refine take_at (i := 17) (v := ?tv17) rfl (by kernel_rfl) (by kernel_rfl) (by kernel_rfl) (fun _ _ _ h => h) (by rfl) ?ty17 (by assumption) ?tr17
  case ty17 => (intro w hSw; go_simp; with_reducible rfl)
  simp only [Act.put, List.setIfInBounds_toArray, List.set_cons_zero, List.set_cons_succ]
  refine take_at (i := 18) (v := ?tv18) rfl (by kernel_rfl) (by kernel_rfl) (by kernel_rfl) (fun _ _ _ h => h) (by rfl) ?ty18 (by assumption) ?tr18
  case ty18 => (intro w hSw; go_simp; with_reducible rfl)
  simp only [Act.put, List.setIfInBounds_toArray, List.set_cons_zero, List.set_cons_succ]
  refine take_at (i := 19) (v := ?tv19) rfl (by kernel_rfl) (by kernel_rfl) (by kernel_rfl) (fun _ _ _ h => h) (by rfl) ?ty19 (by assumption) ?tr19
  case ty19 => (intro w hSw; go_simp; with_reducible rfl)
  simp only [Act.put, List.setIfInBounds_toArray, List.set_cons_zero, List.set_cons_succ]
  refine take_at (i := 20) (v := ?tv20) rfl (by kernel_rfl) (by kernel_rfl) (by kernel_rfl) (fun _ _ _ h => h) (by rfl) ?ty20 (by assumption) ?tr20
  case ty20 => (intro w hSw; go_simp; with_reducible rfl)
  simp only [Act.put, List.setIfInBounds_toArray, List.set_cons_zero, List.set_cons_succ]
  refine take_at (i := 21) (v := ?tv21) rfl (by kernel_rfl) (by kernel_rfl) (by kernel_rfl) (fun _ _ _ h => h) (by rfl) ?ty21 (by assumption) ?tr21
  case ty21 => (intro w hSw; go_simp; with_reducible rfl)
  simp only [Act.put, List.setIfInBounds_toArray, List.set_cons_zero, List.set_cons_succ]
  refine take_at (i := 22) (v := ?tv22) rfl (by kernel_rfl) (by kernel_rfl) (by kernel_rfl) (fun _ _ _ h => h) (by rfl) ?ty22 (by assumption) ?tr22
  case ty22 => (intro w hSw; go_simp; with_reducible rfl)
  simp only [Act.put, List.setIfInBounds_toArray, List.set_cons_zero, List.set_cons_succ]
  refine take_at (i := 23) (v := ?tv23) rfl (by kernel_rfl) (by kernel_rfl) (by kernel_rfl) (fun _ _ _ h => h) (by rfl) ?ty23 (by assumption) ?tr23
  case ty23 => (intro w hSw; go_simp; with_reducible rfl)
  simp only [Act.put, List.setIfInBounds_toArray, List.set_cons_zero, List.set_cons_succ]
  refine take_at (i := 24) (v := ?tv24) rfl (by kernel_rfl) (by kernel_rfl) (by kernel_rfl) (fun _ _ _ h => h) (by rfl) ?ty24 (by assumption) ?tr24
  case ty24 => (intro w hSw; go_simp; with_reducible rfl)
  simp only [Act.put, List.setIfInBounds_toArray, List.set_cons_zero, List.set_cons_succ]
  refine take_at (i := 25) (v := ?tv25) rfl (by kernel_rfl) (by kernel_rfl) (by kernel_rfl) (fun _ _ _ h => h) (by rfl) ?ty25 (by assumption) ?tr25
  case ty25 => (intro w hSw; go_simp; with_reducible rfl)
  simp only [Act.put, List.setIfInBounds_toArray, List.set_cons_zero, List.set_cons_succ]
  refine take_at (i := 26) (v := ?tv26) rfl (by kernel_rfl) (by kernel_rfl) (by kernel_rfl) (fun _ _ _ h => h) (by rfl) ?ty26 (by assumption) ?tr26
  case ty26 => (intro w hSw; go_simp; with_reducible rfl)
  simp only [Act.put, List.setIfInBounds_toArray, List.set_cons_zero, List.set_cons_succ]
  refine take_at (i := 27) (v := ?tv27) rfl (by kernel_rfl) (by kernel_rfl) (by kernel_rfl) (fun _ _ _ h => h) (by rfl) ?ty27 (by assumption) ?tr27
  case ty27 => (intro w hSw; go_simp; with_reducible rfl)
  simp only [Act.put, List.setIfInBounds_toArray, List.set_cons_zero, List.set_cons_succ]
  refine take_at (i := 28) (v := ?tv28) rfl (by kernel_rfl) (by kernel_rfl) (by kernel_rfl) (fun _ _ _ h => h) (by rfl) ?ty28 (by assumption) ?tr28
  case ty28 => (intro w hSw; go_simp; with_reducible rfl)
  simp only [Act.put, List.setIfInBounds_toArray, List.set_cons_zero, List.set_cons_succ]
  refine only_at (i := 29) rfl (by kernel_rfl) (by rfl) (fun K hK => ?_)
  go_simp
  refine hK.out _ _ trivial ?_
  clear hK K
  refine only_at (i := 30) rfl (by kernel_rfl) (by rfl) (fun K hK => ?_)
  go_simp
  refine hK.out _ _ trivial ?_
  clear hK K
  refine wpAnyH_done (by kernel_rfl) ?_ _
  refine NoPanic.normal ?_
  go_wp2
  exact bodyPost_ret (v := .tuple #[.agg #[.int .i64 (byt t 0), .int .i64 (byt t 1), .int .i64 (byt t 2 * 256 + byt t 3), .int .i64 (byt t 4 * 256 + byt t 5), .int .i64 (byt t 6), .int .i64 (byt t 7)], .bool true]) (by simp [results, Try.results70, go_sem]) rfl ⟨rfl, ((((Below.refl _ _).alloc (Nat.le_refl _) _)).drew.alloc (by simp) _)⟩
end Go.Proofs.Ytlafkpaljibonab

namespace Go.Proofs.Ytlafkpaljibonab
open Go.RowKit

theorem bcell {W w1 : World} (hb : Below W.heap.size W w1) : (∀ b o, b < W.heap.size → w1.cell? ⟨b, o, none⟩ = W.cell? ⟨b, o, none⟩) ∧ (∀ b o, b < W.heap.size → w1.frozen? ⟨b, o, none⟩ = W.frozen? ⟨b, o, none⟩) :=
  ⟨fun b o h => hb.cell (p := ⟨b, o, none⟩) h, fun b o h => hb.frozen (p := ⟨b, o, none⟩) h⟩

/-- A cell behind one new block and what a callee did above it. -/
theorem keep_cell {W w2 : World} {o : Obj} (hb : Below (W.alloc o).heap.size (W.alloc o) w2) {a : Addr} {v : Value} (h : W.cell? a = some v) : w2.cell? a = some v := by
  have hlt := World.block_lt_of_cell? W a h
  rw [hb.cell (by simp; omega), World.cell?_alloc_lt _ _ _ hlt, h]
theorem keep_new {W w2 : World} {cs : Array Value} {T : TypeId} (hb : Below (W.alloc (.cells cs T)).heap.size (W.alloc (.cells cs T)) w2) (j : Nat) : w2.cell? ⟨W.heap.size, j, none⟩ = cs[j]? ∧ w2.frozen? ⟨W.heap.size, j, none⟩ = false := by
  refine ⟨?_, ?_⟩
  · rw [hb.cell (by simp)]; exact World.cell?_alloc_at _ _ _ _ rfl
  · rw [hb.frozen (by simp)]; exact World.frozen?_alloc_at _ _ _ _ rfl
theorem keep_frozen {W w2 : World} {o : Obj} (hb : Below (W.alloc o).heap.size (W.alloc o) w2) {a : Addr} (hlt : a.block < W.heap.size) (h : W.frozen? a = false) : w2.frozen? a = false := by
  rw [hb.frozen (by simp; omega), World.frozen?_alloc_old _ _ _ (by omega), h]

def badB (m k i n p z : Int) : Bool := m != 1 || decide (7 < p) || z != 0 || !allowedB k i n

set_option maxRecDepth 100000 in
set_option maxHeartbeats 400000 in
theorem bad_any (m k i n p z : Int) (w : World) :
    Calls Try.prog 82 #[.agg #[.int .i64 m, .int .i64 k, .int .i64 i, .int .i64 n, .int .i64 p, .int .i64 z]] w fun r w' => r = .returned (.bool (badB m k i n p z)) ∧ Below w.heap.size w w' := by
  unfold badB
  cases h1 : m != 1 <;> by_cases h2 : 7 < p <;> cases h3 : z != 0
  all_goals
    go_enter Try.func82, Try.ntmps82
    go_wp2_with (go_at_call 84; refine (allowed_any _ _ _ _).mono ?_; rintro e w' ⟨rfl, rfl⟩)
    go_ret
    exact ⟨by simp [*] <;> omega, (Below.refl _ _).alloc (Nat.le_refl _) _⟩

/-- What the first eight bytes say. -/
def hKind (t : ByteArray) : Int := byt t 1
def hId (t : ByteArray) : Int := byt t 2 * 256 + byt t 3
def hLen (t : ByteArray) : Int := byt t 4 * 256 + byt t 5
def hPad (t : ByteArray) : Int := byt t 6
def badT (t : ByteArray) : Bool := badB (byt t 0) (hKind t) (hId t) (hLen t) (hPad t) (byt t 7)

theorem hd_bd (t : ByteArray) : 0 ≤ hKind t ∧ hKind t ≤ 255 ∧ 0 ≤ hId t ∧ hId t ≤ 65535 ∧ 0 ≤ hLen t ∧ hLen t ≤ 65535 ∧ 0 ≤ hPad t ∧ hPad t ≤ 255 := by
  have b1 := byt_bd t 1
  have b2 := byt_bd t 2
  have b3 := byt_bd t 3
  have b4 := byt_bd t 4
  have b5 := byt_bd t 5
  have b6 := byt_bd t 6
  simp only [hKind, hId, hLen, hPad]; omega

theorem readHead_yes' (t : ByteArray) (w : World) (h : 8 ≤ (t.size : Int)) (hmax : (t.size : Int) ≤ 1000000000000) :
    Calls Try.prog 70 #[.string t] w fun r w' => r = .returned (.tuple #[.agg #[.int .i64 (byt t 0), .int .i64 (hKind t), .int .i64 (hId t), .int .i64 (hLen t), .int .i64 (hPad t), .int .i64 (byt t 7)], .bool true]) ∧ Below w.heap.size w w' :=
  readHead_yes t w h hmax

def nilRec : Value := .agg #[.int .i64 0, .int .i64 0, .string ⟨#[]⟩]

set_option maxRecDepth 100000 in
set_option maxHeartbeats 1000000 in
theorem first_no (t : ByteArray) (w : World) (h : (t.size : Int) < 8) :
    Calls Try.prog 72 #[.string t] w fun r w' => r = .returned (.tuple #[nilRec, .int .i64 0, .int .i64 0]) ∧ Below w.heap.size w w' := by
  go_enter Try.func72, Try.ntmps72
  go_wp2_with fail
  refine (readHead_no t _ h).mono ?_
  rintro e w1 ⟨rfl, hb⟩
  obtain ⟨c0, f0⟩ := keep_new hb 0
  obtain ⟨c1, f1⟩ := keep_new hb 1
  obtain ⟨c2, f2⟩ := keep_new hb 2
  simp only [List.getElem?_toArray, List.getElem?_cons_zero, List.getElem?_cons_succ] at c0 c1 c2
  have hz : w.heap.size < w1.heap.size := by have := hb.size; simp at this; omega
  have h0 : Below w.heap.size w w1 := ((Below.refl _ _).alloc (Nat.le_refl _) _).trans (hb.mono (by simp))
  clear hb
  go_wp2
  refine bodyPost_ret (v := .tuple #[nilRec, .int .i64 0, .int .i64 0]) (by simp [results, Try.results72, go_sem, c0, c1, c2, hz, nilRec]) rfl ⟨rfl, ?_⟩
  repeat (first | exact h0 | refine Below.setCell ?_ (by simp) _ | refine Below.alloc ?_ (by simp; omega) _ | refine Below.drew ?_)

set_option maxRecDepth 100000 in
set_option maxHeartbeats 1000000 in
theorem first_bad (t : ByteArray) (w : World) (h : 8 ≤ (t.size : Int)) (hmax : (t.size : Int) ≤ 1000000000000) (hbad : badT t = true) :
    Calls Try.prog 72 #[.string t] w fun r w' => r = .returned (.tuple #[nilRec, .int .i64 0, .int .i64 7]) ∧ Below w.heap.size w w' := by
  go_enter Try.func72, Try.ntmps72
  go_wp2_with fail
  refine (readHead_yes' t _ h hmax).mono ?_
  rintro e w1 ⟨rfl, hb⟩
  obtain ⟨c0, f0⟩ := keep_new hb 0
  obtain ⟨c1, f1⟩ := keep_new hb 1
  obtain ⟨c2, f2⟩ := keep_new hb 2
  simp only [List.getElem?_toArray, List.getElem?_cons_zero, List.getElem?_cons_succ] at c0 c1 c2
  have hz : w.heap.size < w1.heap.size := by have := hb.size; simp at this; omega
  have h0 : Below w.heap.size w w1 := ((Below.refl _ _).alloc (Nat.le_refl _) _).trans (hb.mono (by simp))
  clear hb
  go_wp2_with fail
  refine (bad_any _ _ _ _ _ _ _).mono ?_
  rintro e w2 ⟨rfl, hb2⟩
  rw [show badB (byt t 0) (hKind t) (hId t) (hLen t) (hPad t) (byt t 7) = true from hbad]
  have d0 := keep_cell hb2 c0
  have d1 := keep_cell hb2 c1
  have d2 := keep_cell hb2 c2
  have k0 := keep_frozen hb2 hz f0
  have k1 := keep_frozen hb2 hz f1
  have k2 := keep_frozen hb2 hz f2
  obtain ⟨e1, -⟩ := keep_new hb2 1
  obtain ⟨e2, -⟩ := keep_new hb2 2
  obtain ⟨e3, -⟩ := keep_new hb2 3
  obtain ⟨e4, -⟩ := keep_new hb2 4
  simp only [List.getElem?_toArray, List.getElem?_cons_zero, List.getElem?_cons_succ] at e1 e2 e3 e4
  have hz2 : w1.heap.size < w2.heap.size := by have := hb2.size; simp at this; omega
  have hz3 : w.heap.size < w2.heap.size := by omega
  have h1 : Below w.heap.size w w2 := (h0.alloc (by omega) _).trans (hb2.mono (by simp; omega))
  clear hb2 c0 c1 c2 f0 f1 f2
  go_wp2
  refine bodyPost_ret (v := .tuple #[nilRec, .int .i64 0, .int .i64 7]) (by simp [results, Try.results72, go_sem, d0, d1, d2, nilRec]) rfl ⟨rfl, ?_⟩
  repeat (first | exact h1 | refine Below.setCell ?_ (by simp) _ | refine Below.alloc ?_ (by simp; omega) _ | refine Below.drew ?_)

set_option maxRecDepth 100000 in
set_option maxHeartbeats 1000000 in
theorem first_part (t : ByteArray) (w : World) (h : 8 ≤ (t.size : Int)) (hmax : (t.size : Int) ≤ 1000000000000) (hbad : badT t = false) (hsz : (t.size : Int) < 8 + hLen t + hPad t) :
    Calls Try.prog 72 #[.string t] w fun r w' => r = .returned (.tuple #[nilRec, .int .i64 0, .int .i64 0]) ∧ Below w.heap.size w w' := by
  have hd := hd_bd t
  go_enter Try.func72, Try.ntmps72
  go_wp2_with fail
  refine (readHead_yes' t _ h hmax).mono ?_
  rintro e w1 ⟨rfl, hb⟩
  obtain ⟨c0, f0⟩ := keep_new hb 0
  obtain ⟨c1, f1⟩ := keep_new hb 1
  obtain ⟨c2, f2⟩ := keep_new hb 2
  simp only [List.getElem?_toArray, List.getElem?_cons_zero, List.getElem?_cons_succ] at c0 c1 c2
  have hz : w.heap.size < w1.heap.size := by have := hb.size; simp at this; omega
  have h0 : Below w.heap.size w w1 := ((Below.refl _ _).alloc (Nat.le_refl _) _).trans (hb.mono (by simp))
  clear hb
  go_wp2_with fail
  refine (bad_any _ _ _ _ _ _ _).mono ?_
  rintro e w2 ⟨rfl, hb2⟩
  rw [show badB (byt t 0) (hKind t) (hId t) (hLen t) (hPad t) (byt t 7) = false from hbad]
  have d0 := keep_cell hb2 c0
  have d1 := keep_cell hb2 c1
  have d2 := keep_cell hb2 c2
  have k0 := keep_frozen hb2 hz f0
  have k1 := keep_frozen hb2 hz f1
  have k2 := keep_frozen hb2 hz f2
  obtain ⟨e1, -⟩ := keep_new hb2 1
  obtain ⟨e2, -⟩ := keep_new hb2 2
  obtain ⟨e3, -⟩ := keep_new hb2 3
  obtain ⟨e4, -⟩ := keep_new hb2 4
  simp only [List.getElem?_toArray, List.getElem?_cons_zero, List.getElem?_cons_succ] at e1 e2 e3 e4
  have hz2 : w1.heap.size < w2.heap.size := by have := hb2.size; simp at this; omega
  have hz3 : w.heap.size < w2.heap.size := by omega
  have h1 : Below w.heap.size w w2 := (h0.alloc (by omega) _).trans (hb2.mono (by simp; omega))
  clear hb2 c0 c1 c2 f0 f1 f2
  go_wp2
  refine bodyPost_ret (v := .tuple #[nilRec, .int .i64 0, .int .i64 0]) (by simp [results, Try.results72, go_sem, d0, d1, d2, nilRec]) rfl ⟨rfl, ?_⟩
  repeat (first | exact h1 | refine Below.setCell ?_ (by simp) _ | refine Below.alloc ?_ (by simp; omega) _ | refine Below.drew ?_)

set_option maxRecDepth 100000 in
set_option maxHeartbeats 1000000 in
theorem first_yes (t : ByteArray) (w : World) (h : 8 ≤ (t.size : Int)) (hmax : (t.size : Int) ≤ 1000000000000) (hbad : badT t = false) (hsz : 8 + hLen t + hPad t ≤ (t.size : Int)) :
    Calls Try.prog 72 #[.string t] w fun r w' => r = .returned (.tuple #[.agg #[.int .i64 (hKind t), .int .i64 (hId t), .string (t.extract 8 (8 + hLen t).toNat)], .int .i64 (8 + hLen t + hPad t), .int .i64 0]) ∧ Below w.heap.size w w' := by
  have hd := hd_bd t
  go_enter Try.func72, Try.ntmps72
  go_wp2_with fail
  refine (readHead_yes' t _ h hmax).mono ?_
  rintro e w1 ⟨rfl, hb⟩
  obtain ⟨c0, f0⟩ := keep_new hb 0
  obtain ⟨c1, f1⟩ := keep_new hb 1
  obtain ⟨c2, f2⟩ := keep_new hb 2
  simp only [List.getElem?_toArray, List.getElem?_cons_zero, List.getElem?_cons_succ] at c0 c1 c2
  have hz : w.heap.size < w1.heap.size := by have := hb.size; simp at this; omega
  have h0 : Below w.heap.size w w1 := ((Below.refl _ _).alloc (Nat.le_refl _) _).trans (hb.mono (by simp))
  clear hb
  go_wp2_with fail
  refine (bad_any _ _ _ _ _ _ _).mono ?_
  rintro e w2 ⟨rfl, hb2⟩
  rw [show badB (byt t 0) (hKind t) (hId t) (hLen t) (hPad t) (byt t 7) = false from hbad]
  have d0 := keep_cell hb2 c0
  have d1 := keep_cell hb2 c1
  have d2 := keep_cell hb2 c2
  have k0 := keep_frozen hb2 hz f0
  have k1 := keep_frozen hb2 hz f1
  have k2 := keep_frozen hb2 hz f2
  obtain ⟨e1, -⟩ := keep_new hb2 1
  obtain ⟨e2, -⟩ := keep_new hb2 2
  obtain ⟨e3, -⟩ := keep_new hb2 3
  obtain ⟨e4, -⟩ := keep_new hb2 4
  simp only [List.getElem?_toArray, List.getElem?_cons_zero, List.getElem?_cons_succ] at e1 e2 e3 e4
  have hz2 : w1.heap.size < w2.heap.size := by have := hb2.size; simp at this; omega
  have hz3 : w.heap.size < w2.heap.size := by omega
  have h1 : Below w.heap.size w w2 := (h0.alloc (by omega) _).trans (hb2.mono (by simp; omega))
  clear hb2 c0 c1 c2 f0 f1 f2
  have hne : w.heap.size ≠ w1.heap.size := by omega
  have hs : ∀ wx : World, (Instr.slice 9 (.string t) (some (.int .i64 8)) (some (.int .i64 (8 + hLen t))) none).run Try.prog wx = .ok (.string (t.extract 8 (8 + hLen t).toNat)) wx := fun wx =>
    run_slice_string (P := Try.prog) wx 9 t .i64 .i64 8 (8 + hLen t) Try.underlying9 (by omega) (by omega) (by omega)
  go_wp2
  go_region_held3 (fun w' => w'.cell? ⟨w1.heap.size, 1, none⟩ = some (.int .i64 (hKind t)) ∧ w'.cell? ⟨w1.heap.size, 2, none⟩ = some (.int .i64 (hId t))) (go_keep) (fail)
  go_wp2
  refine bodyPost_ret (v := .tuple #[.agg #[.int .i64 (hKind t), .int .i64 (hId t), .string (t.extract 8 (8 + hLen t).toNat)], .int .i64 (8 + hLen t + hPad t), .int .i64 0]) (by simp [results, Try.results72, go_sem, d0, d1, d2]) rfl ⟨rfl, ?_⟩
  repeat (first | exact h1 | refine Below.setCell ?_ (by simp) _ | refine Below.alloc ?_ (by simp; omega) _ | refine Below.drew ?_)
end Go.Proofs.Ytlafkpaljibonab

namespace Go.Proofs.Ytlafkpaljibonab
open Go.RowKit

/-- A record as the proofs have it: kind, Id, Content. -/
abbrev Rec := Int × Int × ByteArray

def rcells (r : Rec) : List Value := [.int .i64 r.1, .int .i64 r.2.1, .string r.2.2]
def rowOf (l : List Rec) : List Value := l.flatMap rcells

/-- What stands at the beginning of some bytes: 0: nothing whole; 1: a bad head; 2: a record. -/
def code (t : ByteArray) : Nat :=
  if (t.size : Int) < 8 then 0 else if badT t then 1 else if (t.size : Int) < 8 + hLen t + hPad t then 0 else 2
def recT (t : ByteArray) : Rec := (hKind t, hId t, t.extract 8 (8 + hLen t).toNat)
def sizeT (t : ByteArray) : Nat := (8 + hLen t + hPad t).toNat

/-- What is left of s from a place on. -/
def left (s : ByteArray) (i : Nat) : ByteArray := s.extract i s.size

theorem left_size (s : ByteArray) (i : Nat) : (left s i).size = s.size - i := by
  simp [left, ByteArray.size_extract]

def dec : Nat → ByteArray → Nat → List Rec × Nat × Int
  | 0, _, i => ([], i, 0)
  | f + 1, s, i =>
    if code (left s i) = 0 then ([], i, 0)
    else if code (left s i) = 1 then ([], i, 7)
    else (recT (left s i) :: (dec f s (i + sizeT (left s i))).1, (dec f s (i + sizeT (left s i))).2)

def decL (s : ByteArray) : List Rec := (dec (s.size + 1) s 0).1
def decN (s : ByteArray) : Nat := (dec (s.size + 1) s 0).2.1
def decE (s : ByteArray) : Int := (dec (s.size + 1) s 0).2.2

theorem code_two {t : ByteArray} (h : code t = 2) : 8 ≤ sizeT t ∧ sizeT t ≤ t.size ∧ badT t = false ∧ 8 + hLen t + hPad t ≤ (t.size : Int) ∧ 8 ≤ (t.size : Int) := by
  have hd := hd_bd t
  unfold code at h
  split at h
  · cases h
  · split at h
    · cases h
    · split at h
      · cases h
      · rename_i h1 h2 h3
        refine ⟨by unfold sizeT; omega, by unfold sizeT; omega, by simpa using h2, by omega, by omega⟩

theorem code_cases (t : ByteArray) : code t = 0 ∨ code t = 1 ∨ code t = 2 := by
  unfold code
  split
  · simp
  · split
    · simp
    · split <;> simp

theorem dec_zero {f : Nat} {s : ByteArray} {i : Nat} (h : code (left s i) = 0) : dec f s i = ([], i, 0) := by
  cases f with
  | zero => rfl
  | succ f => simp [dec, h]
theorem dec_one {f : Nat} {s : ByteArray} {i : Nat} (h : code (left s i) = 1) : dec (f + 1) s i = ([], i, 7) := by
  simp [dec, h]
theorem dec_two {f : Nat} {s : ByteArray} {i : Nat} (h : code (left s i) = 2) : dec (f + 1) s i = (recT (left s i) :: (dec f s (i + sizeT (left s i))).1, (dec f s (i + sizeT (left s i))).2) := by
  simp [dec, h]

theorem code_short {s : ByteArray} {i : Nat} (h : s.size - i < 8) : code (left s i) = 0 := by
  unfold code
  rw [if_pos]
  rw [left_size]; omega

/-- 'first' in one row. -/
def firstV (t : ByteArray) : Value :=
  if code t = 2 then .tuple #[.agg #[.int .i64 (recT t).1, .int .i64 (recT t).2.1, .string (recT t).2.2], .int .i64 (sizeT t), .int .i64 0]
  else if code t = 1 then .tuple #[nilRec, .int .i64 0, .int .i64 7] else .tuple #[nilRec, .int .i64 0, .int .i64 0]

theorem first_any (t : ByteArray) (w : World) (hmax : (t.size : Int) ≤ 1000000000000) :
    Calls Try.prog 72 #[.string t] w fun r w' => r = .returned (firstV t) ∧ Below w.heap.size w w' := by
  have hd := hd_bd t
  by_cases h1 : (t.size : Int) < 8
  · have : code t = 0 := by simp [code, h1]
    simpa [firstV, this] using first_no t w h1
  · cases h2 : badT t
    · by_cases h3 : (t.size : Int) < 8 + hLen t + hPad t
      · have : code t = 0 := by simp [code, h1, h2, h3]
        simpa [firstV, this] using first_part t w (by omega) hmax h2 h3
      · have : code t = 2 := by simp [code, h1, h2, h3]
        have e : ((sizeT t : Nat) : Int) = 8 + hLen t + hPad t := by unfold sizeT; omega
        simpa [firstV, this, e, recT] using first_yes t w (by omega) hmax h2 (by omega)
    · have : code t = 1 := by simp [code, h1, h2]
      simpa [firstV, this] using first_bad t w (by omega) hmax h2

theorem rowOf_length (l : List Rec) : (rowOf l).length = l.length * 3 := by
  induction l with
  | nil => rfl
  | cons r l ih => simp only [rowOf, List.flatMap_cons, List.length_append, List.length_cons] at ih ⊢; rw [ih]; simp [rcells]; omega

theorem rowOf_append (a b : List Rec) : rowOf (a ++ b) = rowOf a ++ rowOf b := by simp [rowOf]

theorem rowOf_one (r : Rec) : rowOf [r] = rcells r := by simp [rowOf]

theorem rowOf_get (l : List Rec) (k : Nat) (hk : k < l.length) : (rowOf l)[3 * k]? = some (.int .i64 l[k].1) ∧ (rowOf l)[3 * k + 1]? = some (.int .i64 l[k].2.1) ∧ (rowOf l)[3 * k + 2]? = some (.string l[k].2.2) := by
  induction l generalizing k with
  | nil => simp at hk
  | cons r l ih =>
    cases k with
    | zero => simp [rowOf, rcells]
    | succ k =>
      have := ih k (by simpa using hk)
      have e : rowOf (r :: l) = .int .i64 r.1 :: .int .i64 r.2.1 :: .string r.2.2 :: rowOf l := by simp [rowOf, rcells]
      rw [e, show 3 * (k + 1) = 3 * k + 1 + 1 + 1 from by omega, show 3 * k + 1 + 1 + 1 + 1 = 3 * k + 1 + 1 + 1 + 1 from rfl]
      simpa using this

end Go.Proofs.Ytlafkpaljibonab

namespace Go.Proofs.Ytlafkpaljibonab
open Go.RowKit

theorem info23 : (Try.prog.info? 89).map (fun i => (i.zero, i.size, i.bytes)) = some (some (.agg #[.int .i64 0, .int .i64 0, .string ⟨#[]⟩]), 3, 32) := by kernel_rfl

theorem news_rec (W : World) (g : Nat) (hg : W.heap.size = g) (r : Rec) (T : TypeId) : ∀ j u, (rcells r)[j]? = some u → (W.alloc (.cells #[.int .i64 r.1, .int .i64 r.2.1, .string r.2.2] T)).cell? ((⟨g, 0, none⟩ : Addr).add j) = some u := by
  subst hg
  exact World.news_of_block (heap_alloc_new W _)

theorem one_rec (r : Rec) : ∀ u ∈ rcells r, u.oneCell' = true := by
  intro u hu
  simp only [rcells, List.mem_cons, List.not_mem_nil, or_false] at hu
  rcases hu with rfl | rfl | rfl <;> rfl



end Go.Proofs.Ytlafkpaljibonab

namespace Go.Proofs.Ytlafkpaljibonab
open Go.RowKit

theorem badT_eq (t : ByteArray) : badT t = (byt t 0 != 1 || !isKindB (byt t 1) || (256 * byt t 2 + byt t 3 == 0) || decide (200 < 256 * byt t 4 + byt t 5) || decide (7 < byt t 6) || byt t 7 != 0) := by
  have b2 := byt_bd t 2
  have b3 := byt_bd t 3
  rw [Bool.eq_iff_iff]
  cases hK : isKindB (byt t 1)
  · simp [badT, badB, allowedB, hKind, hK]
  · unfold badT badB allowedB hKind hId hLen hPad
    simp only [hK, Bool.or_eq_true, Bool.not_eq_true', Bool.and_eq_false_iff, decide_eq_true_eq, decide_eq_false_iff_not, bne_iff_ne, beq_iff_eq, Bool.true_eq_false, false_or, or_false, Bool.not_true, Bool.false_eq_true]
    omega

end Go.Proofs.Ytlafkpaljibonab

namespace Go.Proofs.Ytlafkpaljibonab
open Go.RowKit

def wrongB (k n : Int) : Bool := if k = 1 then n != 1 else if k = 2 then n != 0 else k != 5

/-- A head that may not come from a client. -/
def wrongT (t : ByteArray) : Bool := wrongB (hKind t) (hLen t)
def stopT (c : Bool) (t : ByteArray) : Bool := badT t || (c && wrongT t)
def rcode (c : Bool) (t : ByteArray) : Nat :=
  if (t.size : Int) < 8 then 0 else if stopT c t then 1 else if (t.size : Int) < 8 + hLen t + hPad t then 0 else 2

theorem rcode_false (t : ByteArray) : rcode false t = code t := by simp [rcode, code, stopT]

def rdec (c : Bool) : Nat → ByteArray → Nat → List Rec × Nat × Bool
  | 0, _, i => ([], i, false)
  | f + 1, s, i =>
    if rcode c (left s i) = 0 then ([], i, false)
    else if rcode c (left s i) = 1 then ([], i, true)
    else (recT (left s i) :: (rdec c f s (i + sizeT (left s i))).1, (rdec c f s (i + sizeT (left s i))).2)

theorem rcode_two {c : Bool} {t : ByteArray} (h : rcode c t = 2) : 8 ≤ sizeT t ∧ sizeT t ≤ t.size ∧ stopT c t = false ∧ 8 + hLen t + hPad t ≤ (t.size : Int) ∧ 8 ≤ (t.size : Int) := by
  have hd := hd_bd t
  unfold rcode at h
  split at h
  · cases h
  · split at h
    · cases h
    · split at h
      · cases h
      · rename_i h1 h2 h3
        refine ⟨by unfold sizeT; omega, by unfold sizeT; omega, by simpa using h2, by omega, by omega⟩

theorem rdec_zero {c : Bool} {f : Nat} {s : ByteArray} {i : Nat} (h : rcode c (left s i) = 0) : rdec c f s i = ([], i, false) := by
  cases f with
  | zero => rfl
  | succ f => simp [rdec, h]
theorem rdec_one {c : Bool} {f : Nat} {s : ByteArray} {i : Nat} (h : rcode c (left s i) = 1) : rdec c (f + 1) s i = ([], i, true) := by
  simp [rdec, h]
theorem rdec_two {c : Bool} {f : Nat} {s : ByteArray} {i : Nat} (h : rcode c (left s i) = 2) : rdec c (f + 1) s i = (recT (left s i) :: (rdec c f s (i + sizeT (left s i))).1, (rdec c f s (i + sizeT (left s i))).2) := by
  simp [rdec, h]

def rdL (c : Bool) (s : ByteArray) : List Rec := (rdec c (s.size + 1) s 0).1
def rdN (c : Bool) (s : ByteArray) : Nat := (rdec c (s.size + 1) s 0).2.1
def rdB (c : Bool) (s : ByteArray) : Bool := (rdec c (s.size + 1) s 0).2.2

theorem rdec_false (f : Nat) (s : ByteArray) : ∀ i, (rdec false f s i).1 = (dec f s i).1 ∧ (rdec false f s i).2.1 = (dec f s i).2.1 ∧ (if (rdec false f s i).2.2 then (7 : Int) else 0) = (dec f s i).2.2 := by
  induction f with
  | zero => intro i; simp [rdec, dec]
  | succ f ih =>
    intro i
    simp only [rdec, dec, rcode_false]
    split
    · simp
    · split
      · simp
      · have := ih (i + sizeT (left s i))
        exact ⟨by rw [this.1], this.2.1, this.2.2⟩

theorem wrap_ok {n : Int} (h0 : -9223372036854775808 ≤ n) (h1 : n ≤ 9223372036854775807) : IntKind.i64.wrap n = n := by rw [IntKind.wrap_i64]; omega

theorem slice_rec (s : ByteArray) (k : Nat) (h : (k : Int) + 8 + hLen (left s k) + hPad (left s k) ≤ (s.size : Int)) :
    s.extract ((k : Int) + 8).toNat ((k : Int) + 8 + hLen (left s k)).toNat = (recT (left s k)).2.2 := by
  have hd := hd_bd (left s k)
  unfold recT
  show _ = (left s k).extract 8 (8 + hLen (left s k)).toNat
  generalize hLen (left s k) = ln at *
  unfold left
  rw [ByteArray.extract_extract]
  have e1 : ((k : Int) + 8).toNat = k + 8 := by omega
  have e2 : ((k : Int) + 8 + ln).toNat = min (k + (8 + ln).toNat) s.size := by omega
  rw [e1, e2]


end Go.Proofs.Ytlafkpaljibonab

namespace Go.Proofs.Ytlafkpaljibonab
open Go.RowKit

theorem own_empty {w : World} {base : Nat} {e : TypeId} {size : Nat} {v : Value} {xs : List Value} (h : w.ownsRow base e size v 0 xs) : ∃ a c, v = .slice a 0 c := by
  rcases h.2 with ⟨rfl, _⟩ | ⟨g, cap, cur, rfl, _⟩
  · exact ⟨_, _, rfl⟩
  · exact ⟨_, _, rfl⟩

theorem own_cells {w : World} {base g c : Nat} {l : List Rec} (h : w.ownsRow base 89 3 (.slice (some ⟨g, 0, none⟩) l.length c) l.length (rowOf l)) :
    ∀ k (hk : k < l.length), w.cell? ⟨g, k * 3, none⟩ = some (.int .i64 l[k].1) ∧ w.cell? ⟨g, k * 3 + 1, none⟩ = some (.int .i64 l[k].2.1) ∧ w.cell? ⟨g, k * 3 + 2, none⟩ = some (.string l[k].2.2) := by
  intro k hk
  have := rowOf_get l k hk
  rw [Nat.mul_comm 3 k] at this
  rw [h.cellAt _ (by omega), h.cellAt _ (by omega), h.cellAt _ (by omega)]
  exact this

end Go.Proofs.Ytlafkpaljibonab

namespace Go.Proofs.Ytlafkpaljibonab
open Go.RowKit

def pickI (c n : Int) : Int := (if c < 0 then -(c + 1) else c) % n

theorem pickI_bd (c n : Int) (hn : 0 < n) : 0 ≤ pickI c n ∧ pickI c n < n := ⟨Int.emod_nonneg _ (by omega), Int.emod_lt_of_pos _ hn⟩

theorem neg_tm (c n : Int) (hc : c < 0) : -(c + 1).tmod n = -(c + 1) % n := by
  rw [← Int.neg_tmod, Int.tmod_eq_emod_of_nonneg (by omega)]

set_option maxRecDepth 100000 in
set_option maxHeartbeats 400000 in
theorem pick_any (c n : Int) (w : World) (h0 : -9223372036854775808 ≤ c) (h1 : c ≤ 9223372036854775807) (hn : 0 < n) (hn2 : n ≤ 1000000000) :
    Calls Try.prog 7 #[.int .i64 c, .int .i64 n] w fun r w' => r = .returned (.int .i64 (pickI c n)) ∧ w' = w := by
  have hnz : (n == 0) = false := by simp; omega
  unfold pickI
  by_cases hc : c < 0
  · rw [if_pos hc]
    go_enter Try.func7, Try.ntmps7
    go_wp2
    go_ret
    refine ⟨?_, rfl⟩
    rw [← neg_tm c n hc]; rfl
  · rw [if_neg hc]
    go_enter Try.func7, Try.ntmps7
    go_wp2
    go_ret
    exact ⟨rfl, rfl⟩

def shortB (s : ByteArray) (n : Nat) : ByteArray := if n < s.size then s.extract 0 n else s

set_option maxRecDepth 100000 in
set_option maxHeartbeats 400000 in
theorem short_any (s : ByteArray) (n : Nat) (w : World) (hn : n ≤ 1000000) :
    Calls Try.prog 42 #[.string s, .int .i64 n] w fun r w' => r = .returned (.string (shortB s n)) ∧ w' = w := by
  unfold shortB
  by_cases hc : n < s.size
  · rw [if_pos hc]
    go_enter Try.func42, Try.ntmps42
    go_wp2
    go_ret
    exact ⟨rfl, rfl⟩
  · rw [if_neg hc]
    go_enter Try.func42, Try.ntmps42
    go_wp2
    go_ret
    exact ⟨rfl, rfl⟩

/-- The kinds, by their places. -/
def kindAt (j : Int) : Int := if j = 0 then 1 else if j = 1 then 2 else if j = 2 then 3 else if j = 3 then 5 else 6

theorem kindAt_ok (j : Int) : isKindB (kindAt j) = true := by
  unfold kindAt
  split
  · rfl
  · split
    · rfl
    · split
      · rfl
      · split <;> rfl

def shK (k : Int) : Int := kindAt (pickI k 5)
def shI (i : Int) : Int := 1 + pickI i 65535
def shC (c : ByteArray) : ByteArray := shortB c 200

theorem arr5 (w : World) (g : Nat) (hg : w.heap.size = g) (j : Int) (h0 : 0 ≤ j) (h5 : j < 5) (T : TypeId) :
    (w.alloc (.cells #[.int .i64 1, .int .i64 2, .int .i64 3, .int .i64 5, .int .i64 6] T)).cell? ⟨g, j.toNat, none⟩ = some (.int .i64 (kindAt j)) := by
  rw [World.cell?_alloc_at _ _ _ _ hg.symm]
  have : j = 0 ∨ j = 1 ∨ j = 2 ∨ j = 3 ∨ j = 4 := by omega
  rcases this with rfl | rfl | rfl | rfl | rfl <;> rfl

/-- The padding that 'bytes' writes. -/
def padL (n : Nat) : List Int := (List.range n).map fun (j : Nat) => 17 * (j : Int)

theorem padL_succ (n : Nat) : padL (n + 1) = padL n ++ [17 * (n : Int)] := by simp [padL, List.range_succ]
theorem padL_length (n : Nat) : (padL n).length = n := by simp [padL]

def headL (k i : Int) (c p : Int) : List Int := [1, k, i / 256, i % 256, 0, c, p, 0]

theorem enc_padL (k i : Int) (c : ByteArray) (n : Nat) : enc k i c (padL n) = strOfNums (headL k i c.size n ++ nums c ++ padL n) := by
  simp [enc, headL, padL_length]

theorem str_push (a : List Int) (x : Int) : strOfNums a ++ strOfNums [x] = strOfNums (a ++ [x]) := strOfNums_append a [x]

set_option maxRecDepth 100000 in
set_option maxHeartbeats 2000000 in
theorem bytes_any (k i : Int) (c : ByteArray) (n : Nat) (w : World) (hk : 1 ≤ k ∧ k ≤ 6) (hi : 1 ≤ i ∧ i ≤ 65535) (hc : (c.size : Int) ≤ 200) (hn : n ≤ 7) :
    Calls Try.prog 41 #[.int .i64 k, .int .i64 i, .string c, .int .i64 n] w fun r w' => r = .returned (.string (enc k i c (padL n))) ∧ Below w.heap.size w w' := by
  have hm : (c.size : Int) % 256 = c.size := by omega
  have hnm : (n : Int) % 256 = n := by omega
  have hcv := conv_lit w w.heap.size rfl 8 (headL k i c.size n) #[.int .u8 1, .int .u8 k, .int .u8 (i / 256), .int .u8 (i % 256), .int .u8 0, .int .u8 c.size, .int .u8 n, .int .u8 0] rfl rfl (by omega)
  have hsz : (strOfNums (headL k i c.size n)).size = 8 := by simp [strOfNums_size, headL]
  rw [enc_padL]
  generalize headL k i c.size n = hd at *
  go_enter Try.func41, Try.ntmps41
  go_wp2
  clear hcv
  go_loopw [9, 10] (fun v j w' => ∃ m : Nat, m ≤ n ∧ j = .int .i64 m ∧ v = .string (strOfNums (hd ++ nums c ++ padL m)) ∧ Below w.heap.size w w') (fun _ j _ => n - (intOf j).toNat)
  case atStart =>
    refine ⟨0, Nat.zero_le _, rfl, ?_, (Below.refl _ _).alloc (Nat.le_refl _) _⟩
    have := strOfNums_append hd (nums c)
    rw [strOfNums_nums] at this
    rw [this]; simp [padL]
  case round =>
    obtain ⟨m, hm2, rfl, rfl, hb⟩ := hrel
    have hb' := hb.size
    by_cases hlt : m < n
    · have hcv2 := conv_lit wr wr.heap.size rfl 1 [17 * (m : Int)] #[.int .u8 (17 * (m : Int))] rfl rfl (by omega)
      have hpu := str_push (hd ++ nums c ++ padL m) (17 * (m : Int))
      have hl : (strOfNums (hd ++ nums c ++ padL m)).size ≤ 1000 := by
        have h8 := hsz
        rw [strOfNums_size] at h8
        simp [strOfNums_size, nums_length, padL_length]; omega
      have hl1 : (strOfNums [17 * (m : Int)]).size = 1 := by simp [strOfNums_size]
      rw [show hd ++ nums c ++ padL m ++ [17 * (m : Int)] = hd ++ nums c ++ padL (m + 1) from by rw [padL_succ, List.append_assoc]] at hpu
      generalize strOfNums [17 * (m : Int)] = one at *
      generalize strOfNums (hd ++ nums c ++ padL m) = cur at *
      have HP : Hid _ := hpu
      clear hpu
      have h256 : (17 * (m : Int)) % 256 = 17 * m := by omega
      go_wp2
      refine ⟨⟨m + 1, by omega, by go_num, by rw [HP.out], hb.alloc (by omega) _⟩, by simp [intOf]; omega⟩
    · have : m = n := by omega
      subst this
      go_wp2
      go_ret
      exact ⟨rfl, hb⟩

theorem enc_size (k i : Int) (c : ByteArray) (p : List Int) : (enc k i c p).size = 8 + c.size + p.length := by
  simp [enc, strOfNums_size, nums_length]; omega

def tailB (k i : Int) (c : ByteArray) (less : Int) (n : Nat) : ByteArray :=
  (enc k i c (padL n)).extract 0 ((8 + c.size + n : Nat) - 1 - pickI less (8 + c.size + n : Nat)).toNat

def wrongAt (j : Int) : ByteArray :=
  if j = 0 then ⟨#[0, 1, 0, 1, 0, 1, 0, 0]⟩ else if j = 1 then ⟨#[2, 5, 0, 1, 0, 0, 0, 0]⟩ else if j = 2 then ⟨#[1, 4, 0, 1, 0, 0, 0, 0]⟩ else if j = 3 then ⟨#[1, 7, 0, 1, 0, 0, 0, 0]⟩ else if j = 4 then ⟨#[1, 5, 0, 0, 0, 1, 0, 0]⟩ else
  if j = 5 then ⟨#[1, 5, 0, 1, 0, 201, 0, 0]⟩ else if j = 6 then ⟨#[1, 5, 0, 1, 1, 0, 0, 0]⟩ else if j = 7 then ⟨#[1, 5, 0, 1, 0, 1, 8, 0]⟩ else ⟨#[1, 5, 0, 1, 0, 1, 0, 1]⟩

theorem arr9 (w : World) (j : Int) (h0 : 0 ≤ j) (h9 : j < 9) (T : TypeId) : (w.alloc (.cells #[.string ⟨#[0, 1, 0, 1, 0, 1, 0, 0]⟩, .string ⟨#[2, 5, 0, 1, 0, 0, 0, 0]⟩, .string ⟨#[1, 4, 0, 1, 0, 0, 0, 0]⟩, .string ⟨#[1, 7, 0, 1, 0, 0, 0, 0]⟩, .string ⟨#[1, 5, 0, 0, 0, 1, 0, 0]⟩, .string ⟨#[1, 5, 0, 1, 0, 201, 0, 0]⟩, .string ⟨#[1, 5, 0, 1, 1, 0, 0, 0]⟩, .string ⟨#[1, 5, 0, 1, 0, 1, 8, 0]⟩, .string ⟨#[1, 5, 0, 1, 0, 1, 0, 1]⟩] T)).cell? ⟨w.heap.size, j.toNat, none⟩ = some (.string (wrongAt j)) := by
  rw [World.cell?_alloc_at _ _ _ _ rfl]
  have : j = 0 ∨ j = 1 ∨ j = 2 ∨ j = 3 ∨ j = 4 ∨ j = 5 ∨ j = 6 ∨ j = 7 ∨ j = 8 := by omega
  rcases this with rfl | rfl | rfl | rfl | rfl | rfl | rfl | rfl | rfl <;> rfl

set_option maxRecDepth 100000 in
set_option maxHeartbeats 2000000 in
theorem wrong_any (k : Int) (w : World) (h0 : -9223372036854775808 ≤ k) (h1 : k ≤ 9223372036854775807) :
    Calls Try.prog 11 #[.int .i64 k] w fun r w' => r = .returned (.string (wrongAt (pickI k 9))) ∧ Below w.heap.size w w' := by
  have pb := pickI_bd k 9 (by omega)
  have cp := fun wx => pick_any k 9 wx h0 h1 (by omega) (by omega)
  generalize pickI k 9 = j at *
  have CP : Hid _ := cp
  clear cp
  have hcell := arr9 w j pb.1 pb.2 67
  go_enter Try.func11, Try.ntmps11
  go_wp2_with fail
  refine (CP.out _).mono ?_
  rintro e w2 ⟨rfl, rfl⟩
  have hb : Below w.heap.size w (w.alloc (.cells #[.string ⟨#[0, 1, 0, 1, 0, 1, 0, 0]⟩, .string ⟨#[2, 5, 0, 1, 0, 0, 0, 0]⟩, .string ⟨#[1, 4, 0, 1, 0, 0, 0, 0]⟩, .string ⟨#[1, 7, 0, 1, 0, 0, 0, 0]⟩, .string ⟨#[1, 5, 0, 0, 0, 1, 0, 0]⟩, .string ⟨#[1, 5, 0, 1, 0, 201, 0, 0]⟩, .string ⟨#[1, 5, 0, 1, 1, 0, 0, 0]⟩, .string ⟨#[1, 5, 0, 1, 0, 1, 8, 0]⟩, .string ⟨#[1, 5, 0, 1, 0, 1, 0, 1]⟩] 67)) := (Below.refl _ _).alloc (Nat.le_refl _) _
  generalize w.alloc (.cells #[.string ⟨#[0, 1, 0, 1, 0, 1, 0, 0]⟩, .string ⟨#[2, 5, 0, 1, 0, 0, 0, 0]⟩, .string ⟨#[1, 4, 0, 1, 0, 0, 0, 0]⟩, .string ⟨#[1, 7, 0, 1, 0, 0, 0, 0]⟩, .string ⟨#[1, 5, 0, 0, 0, 1, 0, 0]⟩, .string ⟨#[1, 5, 0, 1, 0, 201, 0, 0]⟩, .string ⟨#[1, 5, 0, 1, 1, 0, 0, 0]⟩, .string ⟨#[1, 5, 0, 1, 0, 1, 8, 0]⟩, .string ⟨#[1, 5, 0, 1, 0, 1, 0, 1]⟩] 67) = W at *
  go_wp2
  go_ret
  exact ⟨rfl, hb⟩
end Go.Proofs.Ytlafkpaljibonab
