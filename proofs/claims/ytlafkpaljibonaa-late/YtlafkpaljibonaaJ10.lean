import Derived.Test.YtlafkpaljibonaaJ9
import Derived.ChangeKeysEq
import Derived.ProofKit
import Derived.OpenShut
import Derived.JoinedCond
import Derived.ShutString
import Derived.ChangeOld
import Derived.Lib.SmallJoins
import Derived.Deep.Slices
import Derived.Deep.Strs
import Derived.Test.YtlafkpaljibonaaRows
import Derived.Test.YtlafkpaljibonaaJ2
import Derived.Lib.Strings
namespace Go.Proofs.Ytlafkpaljibonaa
open Go.RowKit

set_option maxRecDepth 100000 in
set_option maxHeartbeats 2000000 in
theorem sameKeys_any {w : World} {B1 B2 : Nat} {a b : Option Addr} {ca cb : Nat} (W : List (Int × Int)) (oa : w.ownsRow B1 109 2 (.slice a W.length ca) W.length (keyCells W)) (ob : w.ownsRow B2 109 2 (.slice b W.length cb) W.length (keyCells W)) (hW : W.length ≤ 1000000000000) :
    Calls Try.prog 61 #[.slice a W.length ca, .slice b W.length cb] w fun r w' => r = .returned (.bool true) ∧ Below w.heap.size w w' := by
  obtain ⟨a', ca', ha, -, ha0⟩ := own_slice oa
  obtain ⟨b', cb', hb, -, hb0⟩ := own_slice ob
  simp only [Value.slice.injEq, true_and] at ha hb
  obtain ⟨rfl, rfl⟩ := ha
  obtain ⟨rfl, rfl⟩ := hb
  go_enter Try.func61, Try.ntmps61
  go_wp2
  go_loopw [5] (fun i w' => ∃ j : Nat, j ≤ W.length ∧ i = .int .i64 j ∧ Below w.heap.size w w') (fun i _ => W.length - (intOf i).toNat)
  case atStart => exact ⟨0, by omega, rfl, Below.refl _ _⟩
  case round =>
    obtain ⟨j, hj, rfl, bel⟩ := hrel
    by_cases hlt : j < W.length
    · obtain ⟨ga, rfl, hga0, hga⟩ := ha0 (by omega)
      obtain ⟨gq, rfl, hgb0, hgb⟩ := hb0 (by omega)
      have oa' := own_keepAt oa (fun g hg => bel.block g (oa.lt g hg).2) (Nat.le_refl _)
      have ob' := own_keepAt ob (fun g hg => bel.block g (ob.lt g hg).2) (Nat.le_refl _)
      have hjI : (j : Int) < W.length := by omega
      have p0 := oa'.cellAt (j * 2) (by omega)
      have p1 := oa'.cellAt (j * 2 + 1) (by omega)
      have q0 := ob'.cellAt (j * 2) (by omega)
      have q1 := ob'.cellAt (j * 2 + 1) (by omega)
      rw [(keyCells_get W j hlt).1] at p0 q0
      rw [(keyCells_get W j hlt).2] at p1 q1
      generalize W[j] = K at *
      go_wp2
      go_quiet (fail)
      go_wp2
      exact ⟨⟨j + 1, by omega, by go_num, below_dN bel⟩, by simp [intOf]; omega⟩
    · have : j = W.length := by omega
      have hjI : ¬ ((j : Int) < W.length) := by omega
      go_wp2
      go_ret
      exact ⟨rfl, bel⟩

theorem eqItems_self {d : Nat} {e : TypeId} {c : Nat} {xs : Array Value} {w : World} : ∀ is : List Nat, (∀ i ∈ is, ∃ v, (part e xs (i * c)).run Try.prog w = .ok v w ∧ (Op.equalIn d e v v).run Try.prog w = .ok true w) → (Op.eqItems d e c xs xs is).run Try.prog w = .ok true w
  | [], _ => by simp [Op.eqItems]
  | i :: is, h => by
    obtain ⟨v, h1, h2⟩ := h i (List.mem_cons_self)
    have ih := eqItems_self is (fun j hj => h j (List.mem_cons_of_mem _ hj))
    simp only [Op.eqItems, Sem.run_bind, h1, h2, Result.andThen_ok, Bool.not_true, Bool.false_eq_true, if_false]
    exact ih

theorem eq_bools (x0 x1 x2 x3 : Bool) (w : World) : (binOp .eql 55 (.agg #[.bool x0, .bool x1, .bool x2, .bool x3]) (.agg #[.bool x0, .bool x1, .bool x2, .bool x3])).run Try.prog w = .ok (.bool true) w := by
  obtain ⟨i0, hi⟩ : ∃ i, Try.prog.info? 4 = some i := Option.isSome_iff_exists.1 (by kernel_rfl)
  have hc : Try.prog.cellsOf 4 = 1 := by kernel_rfl
  rw [run_eql_struct, run_equalIn_array w 9999 _ _ Try.underlying55 hi, hc]
  rw [eqItems_self _ ?_]
  · rfl
  · intro i hin
    have : i = 0 ∨ i = 1 ∨ i = 2 ∨ i = 3 := by simp at hin; omega
    rcases this with rfl | rfl | rfl | rfl
    · exact ⟨.bool x0, by simp [part, isAgg, run_underlying Try.underlying4], by rw [run_equalIn_bool' w 9998 _ _ _ Try.underlying4]; simp⟩
    · exact ⟨.bool x1, by simp [part, isAgg, run_underlying Try.underlying4], by rw [run_equalIn_bool' w 9998 _ _ _ Try.underlying4]; simp⟩
    · exact ⟨.bool x2, by simp [part, isAgg, run_underlying Try.underlying4], by rw [run_equalIn_bool' w 9998 _ _ _ Try.underlying4]; simp⟩
    · exact ⟨.bool x3, by simp [part, isAgg, run_underlying Try.underlying4], by rw [run_equalIn_bool' w 9998 _ _ _ Try.underlying4]; simp⟩

theorem eq_strs4 (x0 x1 x2 x3 : ByteArray) (w : World) : (binOp .eql 56 (.agg #[.string x0, .string x1, .string x2, .string x3]) (.agg #[.string x0, .string x1, .string x2, .string x3])).run Try.prog w = .ok (.bool true) w := by
  obtain ⟨i0, hi⟩ : ∃ i, Try.prog.info? 9 = some i := Option.isSome_iff_exists.1 (by kernel_rfl)
  have hc : Try.prog.cellsOf 9 = 1 := by kernel_rfl
  rw [run_eql_struct, run_equalIn_array w 9999 _ _ Try.underlying56 hi, hc]
  rw [eqItems_self _ ?_]
  · rfl
  · intro i hin
    have : i = 0 ∨ i = 1 ∨ i = 2 ∨ i = 3 := by simp at hin; omega
    rcases this with rfl | rfl | rfl | rfl
    · exact ⟨.string x0, by simp [part, isAgg, run_underlying Try.underlying9], by rw [run_equalIn_string w 9998 _ _ _ Try.underlying9]; simp⟩
    · exact ⟨.string x1, by simp [part, isAgg, run_underlying Try.underlying9], by rw [run_equalIn_string w 9998 _ _ _ Try.underlying9]; simp⟩
    · exact ⟨.string x2, by simp [part, isAgg, run_underlying Try.underlying9], by rw [run_equalIn_string w 9998 _ _ _ Try.underlying9]; simp⟩
    · exact ⟨.string x3, by simp [part, isAgg, run_underlying Try.underlying9], by rw [run_equalIn_string w 9998 _ _ _ Try.underlying9]; simp⟩

theorem eq_strs6 (x0 x1 x2 x3 x4 x5 : ByteArray) (w : World) : (binOp .eql 60 (.agg #[.string x0, .string x1, .string x2, .string x3, .string x4, .string x5]) (.agg #[.string x0, .string x1, .string x2, .string x3, .string x4, .string x5])).run Try.prog w = .ok (.bool true) w := by
  obtain ⟨i0, hi⟩ : ∃ i, Try.prog.info? 9 = some i := Option.isSome_iff_exists.1 (by kernel_rfl)
  have hc : Try.prog.cellsOf 9 = 1 := by kernel_rfl
  rw [run_eql_struct, run_equalIn_array w 9999 _ _ Try.underlying60 hi, hc]
  rw [eqItems_self _ ?_]
  · rfl
  · intro i hin
    have : i = 0 ∨ i = 1 ∨ i = 2 ∨ i = 3 ∨ i = 4 ∨ i = 5 := by simp at hin; omega
    rcases this with rfl | rfl | rfl | rfl | rfl | rfl
    · exact ⟨.string x0, by simp [part, isAgg, run_underlying Try.underlying9], by rw [run_equalIn_string w 9998 _ _ _ Try.underlying9]; simp⟩
    · exact ⟨.string x1, by simp [part, isAgg, run_underlying Try.underlying9], by rw [run_equalIn_string w 9998 _ _ _ Try.underlying9]; simp⟩
    · exact ⟨.string x2, by simp [part, isAgg, run_underlying Try.underlying9], by rw [run_equalIn_string w 9998 _ _ _ Try.underlying9]; simp⟩
    · exact ⟨.string x3, by simp [part, isAgg, run_underlying Try.underlying9], by rw [run_equalIn_string w 9998 _ _ _ Try.underlying9]; simp⟩
    · exact ⟨.string x4, by simp [part, isAgg, run_underlying Try.underlying9], by rw [run_equalIn_string w 9998 _ _ _ Try.underlying9]; simp⟩
    · exact ⟨.string x5, by simp [part, isAgg, run_underlying Try.underlying9], by rw [run_equalIn_string w 9998 _ _ _ Try.underlying9]; simp⟩

theorem eqFields_self {d : Nat} {xs : Array Value} {w : World} : ∀ fs : List Field, (∀ f ∈ fs, ∃ v, (part f.type xs f.offset).run Try.prog w = .ok v w ∧ (Op.equalIn d f.type v v).run Try.prog w = .ok true w) → (Op.eqFields d xs xs fs).run Try.prog w = .ok true w
  | [], _ => by simp [Op.eqFields]
  | f :: fs, h => by
    obtain ⟨v, h1, h2⟩ := h f (List.mem_cons_self)
    have ih := eqFields_self fs (fun j hj => h j (List.mem_cons_of_mem _ hj))
    simp only [Op.eqFields]
    split
    · simp only [Sem.run_bind, h1, h2, Result.andThen_ok, Bool.not_true, Bool.false_eq_true, if_false]
      exact ih
    · exact ih

theorem slot_fields : ∀ f ∈ (Try.prog.fieldsOf 58).toList, (f.offset, f.type) = (0, 3) ∨ (f.offset, f.type) = (1, 4) ∨ (f.offset, f.type) = (2, 3) ∨ (f.offset, f.type) = (3, 3) ∨ (f.offset, f.type) = (4, 3) ∨ (f.offset, f.type) = (5, 3) := of_decide_eq_true (by kernel_rfl)

theorem eq_slot (s0 s2 s3 s4 s5 : Int) (s1 : Bool) (w : World) : (Op.equalIn 9999 58 (.agg #[.int .i64 s0, .bool s1, .int .i64 s2, .int .i64 s3, .int .i64 s4, .int .i64 s5]) (.agg #[.int .i64 s0, .bool s1, .int .i64 s2, .int .i64 s3, .int .i64 s4, .int .i64 s5])).run Try.prog w = .ok true w := by
  rw [run_equalIn_agg w 9998 _ _ _ (by kernel_rfl) (by kernel_rfl)]
  refine eqFields_self _ fun f hf => ?_
  obtain ⟨nm, ty, off, em⟩ := f
  rcases slot_fields _ hf with e | e | e | e | e | e <;> (simp only [Prod.mk.injEq] at e; obtain ⟨rfl, rfl⟩ := e)
  · exact ⟨.int .i64 s0, by simp [part, isAgg, run_underlying Try.underlying3], by rw [run_equalIn_int w 9997 _ _ _ _ _ Try.underlying3]; simp⟩
  · exact ⟨.bool s1, by simp [part, isAgg, run_underlying Try.underlying4], by rw [run_equalIn_bool' w 9997 _ _ _ Try.underlying4]; simp⟩
  · exact ⟨.int .i64 s2, by simp [part, isAgg, run_underlying Try.underlying3], by rw [run_equalIn_int w 9997 _ _ _ _ _ Try.underlying3]; simp⟩
  · exact ⟨.int .i64 s3, by simp [part, isAgg, run_underlying Try.underlying3], by rw [run_equalIn_int w 9997 _ _ _ _ _ Try.underlying3]; simp⟩
  · exact ⟨.int .i64 s4, by simp [part, isAgg, run_underlying Try.underlying3], by rw [run_equalIn_int w 9997 _ _ _ _ _ Try.underlying3]; simp⟩
  · exact ⟨.int .i64 s5, by simp [part, isAgg, run_underlying Try.underlying3], by rw [run_equalIn_int w 9997 _ _ _ _ _ Try.underlying3]; simp⟩

def sixS (a b c d e f : PSlot) : List Value := slotCs a ++ (slotCs b ++ (slotCs c ++ (slotCs d ++ (slotCs e ++ slotCs f))))

theorem eq_slots (a b c d e f : PSlot) (w : World) : (binOp .eql 59 (.agg (sixS a b c d e f).toArray) (.agg (sixS a b c d e f).toArray)).run Try.prog w = .ok (.bool true) w := by
  obtain ⟨i0, hi, hz⟩ : ∃ i, Try.prog.info? 58 = some i ∧ i.size = 6 := by
    have : (Try.prog.info? 58).map (·.size) = some 6 := by kernel_rfl
    obtain ⟨i, h1, h2⟩ := Option.map_eq_some_iff.1 this
    exact ⟨i, h1, h2⟩
  have hc : Try.prog.cellsOf 58 = 6 := by kernel_rfl
  obtain ⟨fs, hu⟩ : ∃ fs, Try.prog.underlying 58 = some (.struct fs) := ⟨_, Try.underlying58⟩
  rw [run_eql_struct, run_equalIn_array w 9999 _ _ Try.underlying59 hi, hc]
  rw [eqItems_self _ ?_]
  · rfl
  · intro i hin
    have : i = 0 ∨ i = 1 ∨ i = 2 ∨ i = 3 ∨ i = 4 ∨ i = 5 := by simp at hin; omega
    have hp : ∀ off, (part 58 (sixS a b c d e f).toArray off).run Try.prog w = .ok (.agg ((sixS a b c d e f).toArray.extract off (off + 6))) w := by
      intro off
      simp [part, isAgg, run_underlying hu, sizeOf, typeInfo, hi, hz]
    rcases this with rfl | rfl | rfl | rfl | rfl | rfl
    · exact ⟨_, hp _, eq_slot a.st a.served a.since a.conn a.id a.old w⟩
    · exact ⟨_, hp _, eq_slot b.st b.served b.since b.conn b.id b.old w⟩
    · exact ⟨_, hp _, eq_slot c.st c.served c.since c.conn c.id c.old w⟩
    · exact ⟨_, hp _, eq_slot d.st d.served d.since d.conn d.id d.old w⟩
    · exact ⟨_, hp _, eq_slot e.st e.served e.since e.conn e.id e.old w⟩
    · exact ⟨_, hp _, eq_slot f.st f.served f.since f.conn f.id f.old w⟩

end Go.Proofs.Ytlafkpaljibonaa

namespace Go.Proofs.Ytlafkpaljibonaa
open Go.RowKit

theorem wpList_load_midG {P : Program} {ops : Array Oper} {rest : List Oper} {op : Oper} {a : Act} {w : World} {Q : Exit → Act → World → Prop} (hw : Region.wanted op (yielded ops a.tmps) = true) (ty : TypeId) (x : Operand) (ho : op.op = .load ty x)
    (b o : Nat) (hx : a.eval x = .pointer (some ⟨b, o, none⟩)) (cs : List Value) (d : TypeDesc) (hc : w.rangeAt b o cs)
    (hu : P.underlying ty = some d) (hd : d.isRow = true) (hi : (P.info? ty).map (·.size) = some cs.length)
    (h : wpList P ops Q rest (a.put op.dst (.agg cs.toArray)) w) : wpList P ops Q (op :: rest) a w :=
  wpList_step fun K hK => by rw [if_pos hw]; exact wp_load_mid ty x ho b o hx cs d hc hu hd hi (hK _ _ h)

theorem six_info (a b c d e f : PSlot) : (Try.prog.info? 59).map (·.size) = some (sixS a b c d e f).length := by
  show (Try.prog.info? 59).map (·.size) = some 36
  kernel_rfl

theorem look_six (m : PM) (bv : Value) (t : Int) (r : Bool) (j : Nat) {v : Value} (hv : (sixS (m.slot 0) (m.slot 1) (m.slot 2) (m.slot 3) (m.slot 4) (m.slot 5))[j]? = some v) : (lookC m 4 6 bv t r)[8 + j]? = (sixS (m.slot 0) (m.slot 1) (m.slot 2) (m.slot 3) (m.slot 4) (m.slot 5))[j]? := by
  have e : lookC m 4 6 bv t r = [opV m 4 0, opV m 4 1, opV m 4 2, opV m 4 3, seV m 4 0, seV m 4 1, seV m 4 2, seV m 4 3] ++ (sixS (m.slot 0) (m.slot 1) (m.slot 2) (m.slot 3) (m.slot 4) (m.slot 5) ++ [joV m 6 0, joV m 6 1, joV m 6 2, joV m 6 3, joV m 6 4, joV m 6 5, bv, .int .i64 t, .bool r]) := rfl
  have hj : j < (sixS (m.slot 0) (m.slot 1) (m.slot 2) (m.slot 3) (m.slot 4) (m.slot 5)).length := (List.getElem?_eq_some_iff.1 hv).1
  rw [e, List.getElem?_append_right (by simp), List.getElem?_append_left (by simpa using hj)]
  simp

set_option maxRecDepth 100000 in
set_option maxHeartbeats 4000000 in
theorem alike_any {w : World} {B1 B2 : Nat} {a b : Option Addr} {ca cb : Nat} (m : PM) (oa : w.ownsRow B1 109 2 (.slice a m.waits.length ca) m.waits.length (keyCells m.waits)) (ob : w.ownsRow B2 109 2 (.slice b m.waits.length cb) m.waits.length (keyCells m.waits)) (hW : m.waits.length ≤ 1000000000000) :
    Calls Try.prog 28 #[.agg (lookC m 4 6 (.slice a m.waits.length ca) m.time true).toArray, .agg (lookC m 4 6 (.slice b m.waits.length cb) m.time true).toArray] w fun r w' => r = .returned (.bool true) ∧ Below w.heap.size w w' := by
  have ks : Hid (∀ w', Below w.heap.size w w' → Calls Try.prog 61 #[.slice a m.waits.length ca, .slice b m.waits.length cb] w' fun r w'' => r = .returned (.bool true) ∧ Below w'.heap.size w' w'') := fun w' hb => sameKeys_any m.waits (own_keepAt oa (fun g hg => hb.block g (oa.lt g hg).2) (Nat.le_refl _)) (own_keepAt ob (fun g hg => hb.block g (ob.lt g hg).2) (Nat.le_refl _)) hW
  obtain ⟨xa, xb, hb⟩ := two_blks w (lookC m 4 6 (.slice a m.waits.length ca) m.time true) (lookC m 4 6 (.slice b m.waits.length cb) m.time true) 63 63
  have a50 := xa.cell (k := 50) (u := .slice a m.waits.length ca) rfl
  have b50 := xb.cell (k := 50) (u := .slice b m.waits.length cb) rfl
  have E1 : ∀ w, (binOp .eql 55 (.agg #[.bool (m.con 0).op, .bool (m.con 1).op, .bool (m.con 2).op, .bool (m.con 3).op]) (.agg #[.bool (m.con 0).op, .bool (m.con 1).op, .bool (m.con 2).op, .bool (m.con 3).op])).run Try.prog w = .ok (.bool true) w := fun w => eq_bools _ _ _ _ w
  have E2 : ∀ w, (binOp .eql 56 (.agg #[.string (strOfNums (m.con 0).sent), .string (strOfNums (m.con 1).sent), .string (strOfNums (m.con 2).sent), .string (strOfNums (m.con 3).sent)]) (.agg #[.string (strOfNums (m.con 0).sent), .string (strOfNums (m.con 1).sent), .string (strOfNums (m.con 2).sent), .string (strOfNums (m.con 3).sent)])).run Try.prog w = .ok (.bool true) w := fun w => eq_strs4 _ _ _ _ w
  have E3 : ∀ w, (binOp .eql 59 (.agg (sixS (m.slot 0) (m.slot 1) (m.slot 2) (m.slot 3) (m.slot 4) (m.slot 5)).toArray) (.agg (sixS (m.slot 0) (m.slot 1) (m.slot 2) (m.slot 3) (m.slot 4) (m.slot 5)).toArray)).run Try.prog w = .ok (.bool true) w := fun w => eq_slots (m.slot 0) (m.slot 1) (m.slot 2) (m.slot 3) (m.slot 4) (m.slot 5) w
  have hI : (Try.prog.info? 59).map (·.size) = some (sixS (m.slot 0) (m.slot 1) (m.slot 2) (m.slot 3) (m.slot 4) (m.slot 5)).length := six_info _ _ _ _ _ _
  have E4 : ∀ w, (binOp .eql 60 (.agg #[.string (jobB (m.slot 0)), .string (jobB (m.slot 1)), .string (jobB (m.slot 2)), .string (jobB (m.slot 3)), .string (jobB (m.slot 4)), .string (jobB (m.slot 5))]) (.agg #[.string (jobB (m.slot 0)), .string (jobB (m.slot 1)), .string (jobB (m.slot 2)), .string (jobB (m.slot 3)), .string (jobB (m.slot 4)), .string (jobB (m.slot 5))])).run Try.prog w = .ok (.bool true) w := fun w => eq_strs6 _ _ _ _ _ _ w
  have C : Hid (∀ w1, Below ((w.alloc (.cells (lookC m 4 6 (.slice a m.waits.length ca) m.time true).toArray 63)).alloc (.cells (lookC m 4 6 (.slice b m.waits.length cb) m.time true).toArray 63)).heap.size ((w.alloc (.cells (lookC m 4 6 (.slice a m.waits.length ca) m.time true).toArray 63)).alloc (.cells (lookC m 4 6 (.slice b m.waits.length cb) m.time true).toArray 63)) w1 → Blk w1 w.heap.size 63 (lookC m 4 6 (.slice a m.waits.length ca) m.time true) ∧ Blk w1 (w.heap.size + 1) 63 (lookC m 4 6 (.slice b m.waits.length cb) m.time true)) := fun w1 h => ⟨xa.below h, xb.below h⟩
  go_enter Try.func28, Try.ntmps28
  go_wp2_with fail
  refine (ks.out _ hb).mono ?_
  rintro e w1 ⟨rfl, hb1⟩
  obtain ⟨ya, yb⟩ := C.out _ hb1
  have hbz : Below w.heap.size w w1 := hb.trans (hb1.mono hb.size)
  clear hb hb1 a50 b50 C ks xa xb oa ob
  have p0 := ya.cell (k := 0) (u := .bool (m.con 0).op) rfl
  have p1 := ya.cell (k := 1) (u := .bool (m.con 1).op) rfl
  have p2 := ya.cell (k := 2) (u := .bool (m.con 2).op) rfl
  have p3 := ya.cell (k := 3) (u := .bool (m.con 3).op) rfl
  have p4 := ya.cell (k := 4) (u := .string (strOfNums (m.con 0).sent)) rfl
  have p5 := ya.cell (k := 5) (u := .string (strOfNums (m.con 1).sent)) rfl
  have p6 := ya.cell (k := 6) (u := .string (strOfNums (m.con 2).sent)) rfl
  have p7 := ya.cell (k := 7) (u := .string (strOfNums (m.con 3).sent)) rfl
  have p44 := ya.cell (k := 44) (u := .string (jobB (m.slot 0))) rfl
  have p45 := ya.cell (k := 45) (u := .string (jobB (m.slot 1))) rfl
  have p46 := ya.cell (k := 46) (u := .string (jobB (m.slot 2))) rfl
  have p47 := ya.cell (k := 47) (u := .string (jobB (m.slot 3))) rfl
  have p48 := ya.cell (k := 48) (u := .string (jobB (m.slot 4))) rfl
  have p49 := ya.cell (k := 49) (u := .string (jobB (m.slot 5))) rfl
  have p51 := ya.cell (k := 51) (u := .int .i64 m.time) rfl
  have p52 := ya.cell (k := 52) (u := .bool true) rfl
  have q0 := yb.cell (k := 0) (u := .bool (m.con 0).op) rfl
  have q1 := yb.cell (k := 1) (u := .bool (m.con 1).op) rfl
  have q2 := yb.cell (k := 2) (u := .bool (m.con 2).op) rfl
  have q3 := yb.cell (k := 3) (u := .bool (m.con 3).op) rfl
  have q4 := yb.cell (k := 4) (u := .string (strOfNums (m.con 0).sent)) rfl
  have q5 := yb.cell (k := 5) (u := .string (strOfNums (m.con 1).sent)) rfl
  have q6 := yb.cell (k := 6) (u := .string (strOfNums (m.con 2).sent)) rfl
  have q7 := yb.cell (k := 7) (u := .string (strOfNums (m.con 3).sent)) rfl
  have q44 := yb.cell (k := 44) (u := .string (jobB (m.slot 0))) rfl
  have q45 := yb.cell (k := 45) (u := .string (jobB (m.slot 1))) rfl
  have q46 := yb.cell (k := 46) (u := .string (jobB (m.slot 2))) rfl
  have q47 := yb.cell (k := 47) (u := .string (jobB (m.slot 3))) rfl
  have q48 := yb.cell (k := 48) (u := .string (jobB (m.slot 4))) rfl
  have q49 := yb.cell (k := 49) (u := .string (jobB (m.slot 5))) rfl
  have q51 := yb.cell (k := 51) (u := .int .i64 m.time) rfl
  have q52 := yb.cell (k := 52) (u := .bool true) rfl
  have ra : w1.rangeAt w.heap.size 8 (sixS (m.slot 0) (m.slot 1) (m.slot 2) (m.slot 3) (m.slot 4) (m.slot 5)) := fun j v hv => ya.cell (by rw [look_six m _ _ _ j hv]; exact hv)
  have rb : w1.rangeAt (w.heap.size + 1) 8 (sixS (m.slot 0) (m.slot 1) (m.slot 2) (m.slot 3) (m.slot 4) (m.slot 5)) := fun j v hv => yb.cell (by rw [look_six m _ _ _ j hv]; exact hv)
  clear ya yb
  generalize sixS (m.slot 0) (m.slot 1) (m.slot 2) (m.slot 3) (m.slot 4) (m.slot 5) = SL at *
  generalize (m.con 0).op = o0 at *
  generalize strOfNums (m.con 0).sent = t0 at *
  generalize (m.con 1).op = o1 at *
  generalize strOfNums (m.con 1).sent = t1 at *
  generalize (m.con 2).op = o2 at *
  generalize strOfNums (m.con 2).sent = t2 at *
  generalize (m.con 3).op = o3 at *
  generalize strOfNums (m.con 3).sent = t3 at *
  generalize jobB (m.slot 0) = j0 at *
  generalize jobB (m.slot 1) = j1 at *
  generalize jobB (m.slot 2) = j2 at *
  generalize jobB (m.slot 3) = j3 at *
  generalize jobB (m.slot 4) = j4 at *
  generalize jobB (m.slot 5) = j5 at *
  generalize (lookC m 4 6 (.slice a m.waits.length ca) m.time true).toArray = VA at *
  generalize (lookC m 4 6 (.slice b m.waits.length cb) m.time true).toArray = VB at *
  go_wp2_with (first | (refine wpList_load_midG ?_ 59 (.tmp 27) rfl w.heap.size 8 rfl SL _ ra Try.underlying59 rfl hI ?_; · rfl) | (refine wpList_load_midG ?_ 59 (.tmp 29) rfl (w.heap.size + 1) 8 rfl SL _ rb Try.underlying59 rfl hI ?_; · rfl))
  go_ret
  exact ⟨rfl, hbz⟩
end Go.Proofs.Ytlafkpaljibonaa

namespace Go.Proofs.Ytlafkpaljibonaa

/-- The raw steps of a script, where they lie. -/
def IsKSteps (w : World) (a : Option Addr) (len : Nat) (X : Nat → KSt) : Prop :=
  len = 0 ∨ ∃ b off, a = some ⟨b, off, none⟩ ∧ b < w.heap.size ∧ ∀ k, k < len → ∀ j u, ((X k).cells)[j]? = some u → w.cell? ⟨b, off + k * 12 + j, none⟩ = some u

def ktot (X : Nat → KSt) : Nat → Nat
  | 0 => 0
  | k + 1 => ktot X k + (X k).s.size + 520

theorem ktot_mono (X : Nat → KSt) {j k : Nat} (h : j ≤ k) : ktot X j ≤ ktot X k := by
  induction k with
  | zero => have : j = 0 := by omega
            subst this; exact Nat.le_refl _
  | succ k ih =>
    by_cases e : j = k + 1
    · subst e; exact Nat.le_refl _
    · have := ih (by omega)
      simp only [ktot]; omega

end Go.Proofs.Ytlafkpaljibonaa
namespace Go.Proofs.Ytlafkpaljibonaa.kscript
open Go.ChangeShapes Go.WideShapes Go.ChangeAt Go.RowKit Go.Joins Go.Deep Go.Proofs.Ytlafkpaljibonaa

set_option maxRecDepth 100000 in
theorem own : ownKnob Try.prog.godebug = none := by kernel_rfl
set_option maxRecDepth 100000 in
theorem laidOut : laidOutB Try.prog = true := by kernel_rfl
set_option maxRecDepth 100000 in
theorem cellsCfg : Try.prog.cellsOf 44 = 7 := by kernel_rfl
set_option maxRecDepth 100000 in
theorem cellsInt : Try.prog.cellsOf 3 = 1 := by kernel_rfl
set_option maxRecDepth 100000 in
theorem cellsBool : Try.prog.cellsOf 4 = 1 := by kernel_rfl
set_option maxRecDepth 100000 in
theorem cellsStr : Try.prog.cellsOf 9 = 1 := by kernel_rfl
set_option maxRecDepth 100000 in
theorem cellsStep : Try.prog.cellsOf 51 = 12 := by kernel_rfl

theorem array7 {α : Type} {cs : Array α} (h : cs.size = 7) : ∃ c0 c1 c2 c3 c4 c5 c6, cs = #[c0, c1, c2, c3, c4, c5, c6] := by
  obtain ⟨l⟩ := cs
  match l, h with
  | [c0, c1, c2, c3, c4, c5, c6], _ => exact ⟨c0, c1, c2, c3, c4, c5, c6, rfl⟩

section
variable {P : Program} {H : Type} {enc : TypeId × Value → H} {w : World} {base : Nat} {spare : Nat → Bool} {held : Bool}
theorem trod_struct7 {t : TypeId} {f0 f1 f2 f3 f4 f5 f6 : Field} {fuel : Nat} {cs : List Value} {x : DataW H × List MemPlace} (ht : P.underlying t = some (.struct #[f0, f1, f2, f3, f4, f5, f6])) (h : DataW.trod enc P w base spare held fuel t cs = some x) :
    ∃ y0 y1 y2 y3 y4 y5 y6 n, DataW.trod enc P w base spare held n f0.type ((cs.drop f0.offset).take (P.cellsOf f0.type)) = some y0 ∧ DataW.trod enc P w base spare held n f1.type ((cs.drop f1.offset).take (P.cellsOf f1.type)) = some y1 ∧ DataW.trod enc P w base spare held n f2.type ((cs.drop f2.offset).take (P.cellsOf f2.type)) = some y2 ∧ DataW.trod enc P w base spare held n f3.type ((cs.drop f3.offset).take (P.cellsOf f3.type)) = some y3 ∧ DataW.trod enc P w base spare held n f4.type ((cs.drop f4.offset).take (P.cellsOf f4.type)) = some y4 ∧ DataW.trod enc P w base spare held n f5.type ((cs.drop f5.offset).take (P.cellsOf f5.type)) = some y5 ∧ DataW.trod enc P w base spare held n f6.type ((cs.drop f6.offset).take (P.cellsOf f6.type)) = some y6 := by
  obtain ⟨xs, n, _, rfl, hl, hlen, hf⟩ := DataW.trod_struct ht h
  match xs, hlen with
  | [y0, y1, y2, y3, y4, y5, y6], _ => exact ⟨y0, y1, y2, y3, y4, y5, y6, n, by simpa using hf 0 f0 rfl, by simpa using hf 1 f1 rfl, by simpa using hf 2 f2 rfl, by simpa using hf 3 f3 rfl, by simpa using hf 4 f4 rfl, by simpa using hf 5 f5 rfl, by simpa using hf 6 f6 rfl⟩

theorem open_agg7 {r : Reach} {b0 : Nat} {t : TypeId} {f0 f1 f2 f3 f4 f5 f6 : Field} {v : Value} {d : DataW H} {p : List MemPlace} (hs : P.underlying t = some (.struct #[f0, f1, f2, f3, f4, f5, f6])) (hone : oneCellFields P #[f0, f1, f2, f3, f4, f5, f6] = true) (hC : P.cellsOf t = 7)
    (hv : Value.okWide P w r b0 t v) (h : DataW.Trod enc P w base spare held t v d p) :
    ∃ (v0 v1 v2 v3 v4 v5 v6 : Value) (y0 y1 y2 y3 y4 y5 y6 : DataW H × List MemPlace) (n : Nat), v = .agg #[v0, v1, v2, v3, v4, v5, v6] ∧ DataW.trod enc P w base spare held n f0.type [v0] = some y0 ∧ DataW.trod enc P w base spare held n f1.type [v1] = some y1 ∧ DataW.trod enc P w base spare held n f2.type [v2] = some y2 ∧ DataW.trod enc P w base spare held n f3.type [v3] = some y3 ∧ DataW.trod enc P w base spare held n f4.type [v4] = some y4 ∧ DataW.trod enc P w base spare held n f5.type [v5] = some y5 ∧ DataW.trod enc P w base spare held n f6.type [v6] = some y6 := by
  obtain ⟨cs, rfl, hsz⟩ := okWide_struct hs hv
  obtain ⟨c0, c1, c2, c3, c4, c5, c6, rfl⟩ := array7 (hsz.trans hC)
  obtain ⟨fuel, hf⟩ := h
  obtain ⟨y0, y1, y2, y3, y4, y5, y6, n, h0, h1, h2, h3, h4, h5, h6⟩ := trod_struct7 hs hf
  obtain ⟨o0, k0⟩ := hone_of hone 0 f0 rfl
  obtain ⟨o1, k1⟩ := hone_of hone 1 f1 rfl
  obtain ⟨o2, k2⟩ := hone_of hone 2 f2 rfl
  obtain ⟨o3, k3⟩ := hone_of hone 3 f3 rfl
  obtain ⟨o4, k4⟩ := hone_of hone 4 f4 rfl
  obtain ⟨o5, k5⟩ := hone_of hone 5 f5 rfl
  obtain ⟨o6, k6⟩ := hone_of hone 6 f6 rfl
  exact ⟨c0, c1, c2, c3, c4, c5, c6, y0, y1, y2, y3, y4, y5, y6, n, rfl, by simpa [Value.cells, o0, k0] using h0, by simpa [Value.cells, o1, k1] using h1, by simpa [Value.cells, o2, k2] using h2, by simpa [Value.cells, o3, k3] using h3, by simpa [Value.cells, o4, k4] using h4, by simpa [Value.cells, o5, k5] using h5, by simpa [Value.cells, o6, k6] using h6⟩
end

set_option maxRecDepth 100000 in
theorem wf_bd {n : Int} (h : (Lit.int .i64 n).wf = true) : i64R n := by
  simpa [i64R, Lit.wf, IntKind.min, IntKind.max, IntKind.signed, IntKind.bits] using h

set_option maxRecDepth 100000 in
/-- A row of settings is one of ours. -/
theorem cfg_of {H : Type} {enc : TypeId × Value → H} {W : World} {r : Reach} {b0 : Nat} {v : Value} {d : DataW H} {p : List MemPlace} (hv : Value.okWide Try.prog W r b0 44 v)
    (h : DataW.Trod enc Try.prog W 0 (fun _ => true) true 44 v d p) : ∃ c : Cfg, v = c.val ∧ c.in64 := by
  obtain ⟨v0, v1, v2, v3, v4, v5, v6, y0, y1, y2, y3, y4, y5, y6, n, rfl, h0, h1, h2, h3, h4, h5, h6⟩ := open_agg7 Try.underlying44 (by kernel_rfl) cellsCfg hv h
  obtain ⟨k0, z0, -, w0⟩ := DataW.trod_int Try.underlying3 h0
  obtain ⟨k1, z1, -⟩ := DataW.trod_bool Try.underlying4 h1
  obtain ⟨k2, z2, -, w2⟩ := DataW.trod_int Try.underlying3 h2
  obtain ⟨k3, z3, -, w3⟩ := DataW.trod_int Try.underlying3 h3
  obtain ⟨k4, z4, -, w4⟩ := DataW.trod_int Try.underlying3 h4
  obtain ⟨k5, z5, -, w5⟩ := DataW.trod_int Try.underlying3 h5
  obtain ⟨k6, z6, -, w6⟩ := DataW.trod_int Try.underlying3 h6
  simp at z0 z1 z2 z3 z4 z5 z6
  subst z0 z1 z2 z3 z4 z5 z6
  exact ⟨⟨k0, k1, k2, k3, k4, k5, k6⟩, rfl, wf_bd w0, wf_bd w2, wf_bd w3, wf_bd w4, wf_bd w5, wf_bd w6⟩

theorem bulk_pos {H : Type} (d : DataW H) : 1 ≤ Rows.uptoBulk d := by
  rcases d with l | _ | _ | ⟨_, _⟩ | _ | ⟨_, _⟩ | _ | _
  · cases l <;> simp [Rows.uptoBulk]
  all_goals simp [Rows.uptoBulk]

theorem bulkAll_append {H : Type} : ∀ (a b : List (DataW H)), Rows.uptoBulkAll (a ++ b) = Rows.uptoBulkAll a + Rows.uptoBulkAll b
  | [], b => by simp [Rows.uptoBulkAll]
  | x :: a, b => by
    have := bulkAll_append a b
    simp only [List.cons_append, Rows.uptoBulkAll, this]
    omega

theorem bulk_tot {H : Type} (D : Nat → DataW H) (X : Nat → KSt) : ∀ n, (∀ k, k < n → (X k).s.size + 14 ≤ Rows.uptoBulk (D k)) → ktot X n ≤ 38 * Rows.uptoBulkAll ((List.range n).map D)
  | 0, _ => Nat.zero_le _
  | n + 1, h => by
    have ih := bulk_tot D X n (fun k hk => h k (by omega))
    have hn := h n (by omega)
    rw [List.range_succ, List.map_append, bulkAll_append]
    simp only [ktot, List.map_cons, List.map_nil, Rows.uptoBulkAll]
    omega

set_option maxRecDepth 100000 in
set_option maxHeartbeats 1000000 in
theorem step_of {H : Type} {enc : TypeId × Value → H} {W : World} {n : Nat} {cs : List Value} {x : DataW H × List MemPlace} (hl : cs.length = 12) (h : DataW.trod enc Try.prog W 0 (fun _ => true) true n 51 cs = some x) :
    ∃ s : KSt, cs = s.cells ∧ s.in64 ∧ s.s.size + 14 ≤ Rows.uptoBulk x.1 := by
  obtain ⟨xs, n', _, rfl, hl', hlen, hf⟩ := DataW.trod_struct Try.underlying51 h
  match cs, hl with
  | [v0, v1, v2, v3, v4, v5, v6, v7, v8, v9, v10, v11], _ =>
    match xs, hlen with
    | [y0, y1, y2, y3, y4, y5], _ =>
      have h0 := hf 0 _ rfl
      have h1 := hf 1 _ rfl
      have h2 := hf 2 _ rfl
      have h3 := hf 3 _ rfl
      have h4 := hf 4 _ rfl
      have h5 := hf 5 _ rfl
      simp [cellsInt, cellsStr, cellsCfg] at h0 h1 h2 h3 h4 h5
      obtain ⟨a0, z0, -, w0⟩ := DataW.trod_int Try.underlying3 h0
      obtain ⟨a1, z1, -, w1⟩ := DataW.trod_int Try.underlying3 h1
      obtain ⟨a2, z2, -, w2⟩ := DataW.trod_int Try.underlying3 h2
      obtain ⟨a3, z3, -, w3⟩ := DataW.trod_int Try.underlying3 h3
      obtain ⟨a4, z4, e4, -⟩ := DataW.trod_string Try.underlying9 h4
      obtain ⟨xs5, n5, _, e5, hl5, hlen5, hf5⟩ := DataW.trod_struct Try.underlying44 h5
      match xs5, hlen5 with
      | [c0, c1, c2, c3, c4, c5, c6], _ =>
        have g0 := hf5 0 _ rfl
        have g1 := hf5 1 _ rfl
        have g2 := hf5 2 _ rfl
        have g3 := hf5 3 _ rfl
        have g4 := hf5 4 _ rfl
        have g5 := hf5 5 _ rfl
        have g6 := hf5 6 _ rfl
        simp [cellsInt, cellsBool] at g0 g1 g2 g3 g4 g5 g6
        obtain ⟨b0, q0, -, u0⟩ := DataW.trod_int Try.underlying3 g0
        obtain ⟨b1, q1, -⟩ := DataW.trod_bool Try.underlying4 g1
        obtain ⟨b2, q2, -, u2⟩ := DataW.trod_int Try.underlying3 g2
        obtain ⟨b3, q3, -, u3⟩ := DataW.trod_int Try.underlying3 g3
        obtain ⟨b4, q4, -, u4⟩ := DataW.trod_int Try.underlying3 g4
        obtain ⟨b5, q5, -, u5⟩ := DataW.trod_int Try.underlying3 g5
        obtain ⟨b6, q6, -, u6⟩ := DataW.trod_int Try.underlying3 g6
        simp at z0 z1 z2 z3 z4 q0 q1 q2 q3 q4 q5 q6
        subst z0 z1 z2 z3 z4 q0 q1 q2 q3 q4 q5 q6
        refine ⟨⟨a0, a1, a2, a3, a4, ⟨b0, b1, b2, b3, b4, b5, b6⟩⟩, rfl, ⟨wf_bd w0, wf_bd w1, wf_bd w2, wf_bd w3, wf_bd u0, wf_bd u2, wf_bd u3, wf_bd u4, wf_bd u5, wf_bd u6⟩, ?_⟩
        subst e4
        have e : a4.data.toList.length = a4.size := by rw [Array.length_toList]; rfl
        have p0 := bulk_pos y0.1
        have p1 := bulk_pos y1.1
        have p2 := bulk_pos y2.1
        have p3 := bulk_pos y3.1
        have p5 : 8 ≤ Rows.uptoBulk y5.1 := by
          rw [e5]
          have r0 := bulk_pos c0.1
          have r1 := bulk_pos c1.1
          have r2 := bulk_pos c2.1
          have r3 := bulk_pos c3.1
          have r4 := bulk_pos c4.1
          have r5 := bulk_pos c5.1
          have r6 := bulk_pos c6.1
          simp only [List.map_cons, List.map_nil, Rows.uptoBulk, Rows.uptoBulkAll]
          omega
        simp only [List.map_cons, List.map_nil, Rows.uptoBulk, Rows.uptoBulkAll]
        omega

set_option maxRecDepth 100000 in
theorem steps_of {H : Type} {enc : TypeId × Value → H} {W : World} {a : Option Addr} {len cap : Nat} {d : DataW H} {p : List MemPlace}
    (h : DataW.Trod enc Try.prog W 0 (fun _ => true) true 45 (.slice a len cap) d p) : ∃ X, IsKSteps W a len X ∧ (∀ k, k < len → (X k).in64) ∧ ktot X len ≤ 38 * Rows.uptoBulk d := by
  obtain ⟨fuel, hf⟩ := h
  rcases open_slice Try.underlying45 hf with ⟨hcs, _⟩ | ⟨x, l, c, m, n, D, Pl, hcs, _, hl, hm, hmm, hd, hx⟩
  · simp [Value.cells] at hcs
    obtain ⟨rfl, rfl, rfl⟩ := hcs
    exact ⟨fun _ => ⟨0, 0, 0, 0, ⟨#[]⟩, ⟨0, false, 0, 0, 0, 0, 0⟩⟩, .inl rfl, fun k hk => by omega, Nat.zero_le _⟩
  · simp [Value.cells] at hcs
    obtain ⟨rfl, rfl, rfl⟩ := hcs
    simp only [Prod.mk.injEq] at hd
    obtain ⟨rfl, -⟩ := hd
    have hle : len ≤ m := by rw [hmm]; split <;> omega
    rw [cellsStep] at hx
    have each : ∀ k, k < len → ∃ s : KSt, (∀ j u, s.cells[j]? = some u → W.cell? ((x.add (k * 12)).add j) = some u) ∧ s.in64 ∧ s.s.size + 14 ≤ Rows.uptoBulk (D k) := by
      intro k hk
      obtain ⟨cs, h1, h2⟩ := hx k (by omega)
      obtain ⟨_, hlc, hcell⟩ := World.cells?_some h1
      obtain ⟨s, rfl, h64, hb⟩ := step_of hlc h2
      refine ⟨s, ?_, h64, hb⟩
      intro j u hu
      obtain ⟨hj, -⟩ := List.getElem?_eq_some_iff.1 hu
      have := hcell j (by rw [hlc] at hj; exact hj)
      rw [this]; exact hu
    haveI : Inhabited KSt := ⟨⟨0, 0, 0, 0, ⟨#[]⟩, ⟨0, false, 0, 0, 0, 0, 0⟩⟩⟩
    obtain ⟨X, hX⟩ := choose_lt each
    refine ⟨X, ?_, fun k hk => (hX k hk).2.1, ?_⟩
    · by_cases h0 : len = 0
      · exact .inl h0
      · right
        obtain ⟨b, off, spot⟩ := x
        have hc := (hX 0 (by omega)).1 0 (.int .i64 (X 0).kind) rfl
        have hspot : spot = none := by simpa [Addr.add] using World.cell?_spot hc
        subst hspot
        have hadd : ∀ i j : Nat, ((⟨b, i, none⟩ : Addr).add j) = ⟨b, i + j, none⟩ := fun i j => by unfold Addr.add; split <;> simp_all
        refine ⟨b, off, rfl, ?_, ?_⟩
        · have := World.block_lt_of_cell? _ _ hc
          rw [hadd, hadd] at this
          exact this
        · intro k hk j u hu
          have := (hX k hk).1 j u hu
          rw [hadd, hadd] at this
          exact this
    · have := bulk_tot D X len (fun k hk => (hX k hk).2.2)
      simp only [Rows.uptoBulk]
      omega

end Go.Proofs.Ytlafkpaljibonaa.kscript

namespace Go.Proofs.Ytlafkpaljibonaa
open Go.RowKit

/-- What is nobody's is as it was. -/
structure FrN (o : Nat → Tag) (w : World) (o' : Nat → Tag) (w' : World) : Prop where
  os : w'.os = w.os
  tape : w'.tape = w.tape
  output : w'.output = w.output
  size : w.heap.size ≤ w'.heap.size
  clean : Clean o' w'
  tags : ∀ g, g < w.heap.size → o' g = o g
  block : ∀ g, g < w.heap.size → (o g).1 = 0 → w'.heap[g]? = w.heap[g]?

section
variable {q B : Nat} {o o' o1 o2 : Nat → Tag} {w w' w1 w2 : World} {b fb gb : Nat} {m m' n : PM} {sv : Nat → Value} {rv : Value}

theorem FrN.trans (h : FrN o w o1 w1) (k : FrN o1 w1 o2 w2) : FrN o w o2 w2 :=
  ⟨k.os.trans h.os, k.tape.trans h.tape, k.output.trans h.output, Nat.le_trans h.size k.size, k.clean,
   fun g hg => (k.tags g (Nat.lt_of_lt_of_le hg h.size)).trans (h.tags g hg),
   fun g hg hq => (k.block g (Nat.lt_of_lt_of_le hg h.size) (by rw [h.tags g hg]; exact hq)).trans (h.block g hg hq)⟩
theorem Fr.toN (h : Fr q o w o' w') (hq : q ≠ 0) : FrN o w o' w' := ⟨h.os, h.tape, h.output, h.size, h.clean, h.tags, fun g hg h0 => h.block g hg (by omega)⟩
theorem FrN.of_below (hc : Clean o w) (h : Below w.heap.size w w') : FrN o w o w' := (Fr.of_below (q := 1) hc h).toN (by omega)
theorem FrN.below (h : FrN o w o1 w1) (k : Below w1.heap.size w1 w2) : FrN o w o1 w2 := h.trans (FrN.of_below h.clean k)

set_option maxRecDepth 100000 in
set_option maxHeartbeats 1000000 in
theorem opened_any (c : Cfg) (hok : c.ok = true) (ho : Clean o w) :
    Calls Try.prog 22 #[c.val] w fun r w' => ∃ b o', r = .returned (.pointer (some ⟨b, 0, none⟩)) ∧ FMem o' q w' b (newPM c) nilV (.slice none 0 0) ∧ Fr q o w o' w' := by
  have k1 : Hid (∀ w, Clean o w → Calls Try.prog 49 #[c.val] w fun r w' => ∃ b o', r = .returned (.tuple #[.pointer (some ⟨b, 0, none⟩), .int .i64 0]) ∧ FMem o' q w' b (newPM c) nilV (.slice none 0 0) ∧ Fr q o w o' w') := fun w ho => new_yes (q := q) c w ho hok
  have hb0 : Below w.heap.size w (w.alloc (.cells #[.int .i64 c.ch, .bool c.dyn, .int .i64 c.mn, .int .i64 c.mx, .int .i64 c.mr, .int .i64 c.tmo, .int .i64 c.bl] 44)) := (Below.refl _ _).alloc (Nat.le_refl _) _
  unfold Cfg.val at *
  go_enter Try.func22, Try.ntmps22
  go_wp2_with fail
  refine (k1.out _ (ho.le hb0.size)).mono ?_
  rintro e w1 ⟨b, o1, rfl, hm, fr⟩
  go_wp2
  go_ret
  exact ⟨b, o1, rfl, hm, (Fr.of_below ho hb0).trans fr⟩

theorem raw_fit (c : Cfg) : (rawPM c).Fit 0 :=
  ⟨⟨fun _ _ => .inl rfl, fun r hr => by cases hr⟩, ⟨Nat.le_refl _, fun _ _ => Nat.le_refl _, fun r hr => by cases hr⟩, fun _ _ => Nat.zero_le _⟩

theorem new_fit (c : Cfg) : (newPM c).Fit 0 := (raw_fit c).settle

/-- The first k steps, one after another. -/
def PM.doTo (m : PM) (X : Nat → KSt) : Nat → PM
  | 0 => m
  | k + 1 => (m.doTo X k).doM (X k)

theorem PM.Fit.doTo (h : m.Fit B) (X : Nat → KSt) : ∀ k, (m.doTo X k).Fit (B + ktot X k)
  | 0 => h
  | k + 1 => by
    have := (PM.Fit.doTo h X k).doM (X k)
    exact this.mono (by simp only [ktot]; omega)

/-- Two foremen beside one another. -/
structure Pair (o : Nat → Tag) (w : World) (fb gb : Nat) (m n : PM) : Prop where
  f : ∃ sv rv, FMem o 1 w fb m sv rv
  g : ∃ sv rv, FMem o 2 w gb n sv rv

theorem Pair.clean (h : Pair o w fb gb m n) : Clean o w := by
  obtain ⟨_, _, h1⟩ := h.f
  exact h1.clean
theorem Pair.below (h : Pair o w fb gb m n) (hb : Below w.heap.size w w') : Pair o w' fb gb m n := by
  obtain ⟨a, b, h1⟩ := h.f
  obtain ⟨c, d, h2⟩ := h.g
  exact ⟨⟨a, b, h1.below hb⟩, ⟨c, d, h2.below hb⟩⟩
theorem Pair.left1 (h : Pair o w fb gb m n) (hl : Left o 1 w fb m' w') : ∃ o', Pair o' w' fb gb m' n ∧ FrN o w o' w' := by
  obtain ⟨o', sv', rv', h1, h2⟩ := hl
  obtain ⟨c, d, h3⟩ := h.g
  exact ⟨o', ⟨⟨sv', rv', h1⟩, ⟨c, d, h3.fr h2 (by omega)⟩⟩, h2.toN (by omega)⟩
theorem Pair.left2 (h : Pair o w fb gb m n) (hl : Left o 2 w gb m' w') : ∃ o', Pair o' w' fb gb m m' ∧ FrN o w o' w' := by
  obtain ⟨o', sv', rv', h1, h2⟩ := hl
  obtain ⟨c, d, h3⟩ := h.f
  exact ⟨o', ⟨⟨c, d, h3.fr h2 (by omega)⟩, ⟨sv', rv', h1⟩⟩, h2.toN (by omega)⟩

theorem pair_do1 (h : Pair o w fb gb m n) (hf : m.Fit B) (hB : B ≤ 48000000) (x : KSt) (hx : x.in64) (hs : x.s.size ≤ 100000000) :
    Calls Try.prog 23 #[.pointer (some ⟨fb, 0, none⟩), x.val] w fun r w' => r = .returned (.int .i64 (m.doE x)) ∧ ∃ o', Pair o' w' fb gb (m.doM x) n ∧ FrN o w o' w' := by
  obtain ⟨a, b, h1⟩ := h.f
  refine (do_any h1 (by omega) hf hB x hx hs).mono ?_
  rintro r w' ⟨e, hl⟩
  exact ⟨e, h.left1 hl⟩
theorem pair_do2 (h : Pair o w fb gb m n) (hf : n.Fit B) (hB : B ≤ 48000000) (x : KSt) (hx : x.in64) (hs : x.s.size ≤ 100000000) :
    Calls Try.prog 23 #[.pointer (some ⟨gb, 0, none⟩), x.val] w fun r w' => r = .returned (.int .i64 (n.doE x)) ∧ ∃ o', Pair o' w' fb gb m (n.doM x) ∧ FrN o w o' w' := by
  obtain ⟨a, b, h1⟩ := h.g
  refine (do_any h1 (by omega) hf hB x hx hs).mono ?_
  rintro r w' ⟨e, hl⟩
  exact ⟨e, h.left2 hl⟩

theorem IsKSteps.frn {a : Option Addr} {len : Nat} {X : Nat → KSt} (h : IsKSteps w a len X) (hf : FrN o w o' w') (ho : ∀ g, g < w.heap.size → o g = (0, 0)) : IsKSteps w' a len X := by
  rcases h with e | ⟨b, off, e, hbl, hc⟩
  · exact .inl e
  · exact .inr ⟨b, off, e, Nat.lt_of_lt_of_le hbl hf.size, fun k hk j u hu => by rw [World.cell?_of_block (hf.block b hbl (by rw [ho b hbl]))]; exact hc k hk j u hu⟩

end
end Go.Proofs.Ytlafkpaljibonaa

namespace Go.Proofs.Ytlafkpaljibonaa
open Go.RowKit

def noK : Nat → Tag := fun _ => (0, 0)

theorem open_connect (m : PM) {k : Nat} (hk : k < 4) : (m.afterConnect k).chk k = 0 := by
  have hC : isC (k : Int) = true := by simp [isC]; omega
  unfold PM.afterConnect PM.chk
  rw [hC]
  simp only [cond_true, Int.toNat_natCast, Bool.true_and]
  cases ho : (m.con k).op
  · simp only [Bool.not_false, cond_true, PM.connect, upd_same]
  · simp only [Bool.not_true, cond_false, ho, cond_true]

theorem ktot_ge (X : Nat → KSt) : ∀ k, k ≤ ktot X k
  | 0 => Nat.le_refl _
  | k + 1 => by have := ktot_ge X k; simp only [ktot]; omega

theorem kst_info (x : KSt) : (Try.prog.info? 51).map (·.size) = some x.cells.length := by
  show (Try.prog.info? 51).map (·.size) = some 12
  kernel_rfl

theorem setCells_size (b : Nat) : ∀ (vs : List Value) (o : Nat) (w : World), (w.setCells b o vs).heap.size = w.heap.size
  | [], _, _ => rfl
  | v :: vs, o, w => (setCells_size b vs (o + 1) _).trans (by simp [World.setCell])

def zeroL : List Value := lookC ⟨⟨0, false, 0, 0, 0, 0, 0⟩, 0, fun _ => ⟨false, ⟨#[]⟩, []⟩, [], fun _ => newSlot 0⟩ 0 0 (.slice none 0 0) 0 false

/-- A Look is laid into a variable of its own. -/
theorem put_look (w : World) (L : List Value) (hL : L.length = 53) :
    (w.alloc (.cells zeroL.toArray 63)).there w.heap.size 0 L.toArray.size ∧ Below w.heap.size w ((w.alloc (.cells zeroL.toArray 63)).setCells w.heap.size 0 L) ∧ ((w.alloc (.cells zeroL.toArray 63)).setCells w.heap.size 0 L).rangeAt w.heap.size 0 L ∧ w.heap.size < ((w.alloc (.cells zeroL.toArray 63)).setCells w.heap.size 0 L).heap.size := by
  have x := Blk.made w 63 zeroL
  have hz : zeroL.length = 53 := rfl
  have th : (w.alloc (.cells zeroL.toArray 63)).there w.heap.size 0 L.length := by
    intro j hj
    refine ⟨?_, x.frozen _⟩
    rw [x.cell (k := 0 + j) (u := zeroL[j]'(by omega)) (by rw [Nat.zero_add]; exact List.getElem?_eq_getElem _)]
    rfl
  exact ⟨by simpa using th, setCells_below (Nat.le_refl _) _ _ _ ((Below.refl _ _).alloc (Nat.le_refl _) _), World.rangeAt_setCells_same _ _ _ _ th, by rw [setCells_size]; simp⟩

theorem range_below {w w' : World} {b o : Nat} {L : List Value} (h : w.rangeAt b o L) (hb : b < w.heap.size) (hf : Below w.heap.size w w') : w'.rangeAt b o L := fun j v hv => by
  rw [hf.cell (by exact hb)]; exact h j v hv

theorem look_own {w w' : World} {B n : Nat} {v : Value} {xs : List Value} (h : w.ownsRow B 109 2 v n xs) (hb : Below w.heap.size w w') : w'.ownsRow B 109 2 v n xs := own_keepAt h (fun g hg => hb.block g (h.lt g hg).2) (Nat.le_refl _)

end Go.Proofs.Ytlafkpaljibonaa

namespace Go.Proofs.Ytlafkpaljibonaa
open Go.RowKit

def encL (r : Rec) (p : List Int) : List Int := [1, r.1, r.2.1 / 256, r.2.1 % 256, 0, (r.2.2.size : Int), (p.length : Int), 0] ++ nums r.2.2 ++ p

theorem enc_encL (k i : Int) (c : ByteArray) (p : List Int) : enc k i c p = strOfNums (encL (k, i, c) p) := rfl

theorem encL_length (r : Rec) (p : List Int) : (encL r p).length = 8 + r.2.2.size + p.length := by simp [encL, nums_length]; omega

theorem str_extract (l : List Int) (a b : Nat) : (strOfNums l).extract a b = strOfNums ((l.drop a).take (b - a)) := by
  apply ByteArray.ext
  apply Array.ext'
  simp [strOfNums, ByteArray.data_extract, List.extract_eq_take_drop, List.map_take, List.map_drop]

theorem str_left (l : List Int) (i : Nat) : left (strOfNums l) i = strOfNums (l.drop i) := by
  unfold left
  rw [str_extract, strOfNums_size]
  congr 1
  rw [List.take_of_length_le (by simp)]

/-- Numbers that are bytes. -/
def Byts (l : List Int) : Prop := ∀ x ∈ l, 0 ≤ x ∧ x ≤ 255

theorem byt_str (l : List Int) (j : Nat) (x : Int) (h : l[j]? = some x) (hx : 0 ≤ x ∧ x ≤ 255) : byt (strOfNums l) j = x := by
  unfold byt strOfNums
  have : ((l.map fun n => UInt8.ofNat n.toNat).toArray).getD j 0 = UInt8.ofNat x.toNat := by
    simp [Array.getD_eq_getD_getElem?, List.getElem?_map, h]
  show (((l.map fun n => UInt8.ofNat n.toNat).toArray.getD j 0).toNat : Int) = x
  rw [this]
  simp
  omega

structure Good (r : Rec) (p : List Int) : Prop where
  al : allowedB r.1 r.2.1 r.2.2.size = true
  pl : p.length ≤ 7

/-- What the head of a record says, when its eight bytes stand there. -/
theorem head_enc (r : Rec) (p l : List Int) (hg : Good r p) (hl : l.take 8 = [1, r.1, r.2.1 / 256, r.2.1 % 256, 0, (r.2.2.size : Int), (p.length : Int), 0]) :
    hKind (strOfNums l) = r.1 ∧ hId (strOfNums l) = r.2.1 ∧ hLen (strOfNums l) = r.2.2.size ∧ hPad (strOfNums l) = p.length ∧ badT (strOfNums l) = false := by
  obtain ⟨hk, k1, k6, i1, i2, c1⟩ := allowedB_bd hg.al
  have hp := hg.pl
  have get : ∀ j x, ([1, r.1, r.2.1 / 256, r.2.1 % 256, 0, (r.2.2.size : Int), (p.length : Int), 0] : List Int)[j]? = some x → j < 8 → l[j]? = some x := by
    intro j x hx hj
    rw [← hl, List.getElem?_take, if_pos hj] at hx
    exact hx
  have g0 := byt_str l 0 _ (get 0 _ rfl (by omega)) (by omega)
  have g1 := byt_str l 1 _ (get 1 _ rfl (by omega)) (by omega)
  have g2 := byt_str l 2 _ (get 2 _ rfl (by omega)) (by omega)
  have g3 := byt_str l 3 _ (get 3 _ rfl (by omega)) (by omega)
  have g4 := byt_str l 4 _ (get 4 _ rfl (by omega)) (by omega)
  have g5 := byt_str l 5 _ (get 5 _ rfl (by omega)) (by omega)
  have g6 := byt_str l 6 _ (get 6 _ rfl (by omega)) (by omega)
  have g7 := byt_str l 7 _ (get 7 _ rfl (by omega)) (by omega)
  have e1 : hKind (strOfNums l) = r.1 := g1
  have e2 : hId (strOfNums l) = r.2.1 := by unfold hId; rw [g2, g3]; omega
  have e3 : hLen (strOfNums l) = r.2.2.size := by unfold hLen; rw [g4, g5]; omega
  have e4 : hPad (strOfNums l) = p.length := g6
  refine ⟨e1, e2, e3, e4, ?_⟩
  unfold badT badB
  rw [e1, e2, e3, e4, g0, g7, hg.al]
  simp
  omega

theorem take8_enc (r : Rec) (p rest : List Int) : (encL r p ++ rest).take 8 = [1, r.1, r.2.1 / 256, r.2.1 % 256, 0, (r.2.2.size : Int), (p.length : Int), 0] := by
  simp [encL]

theorem step_enc (r : Rec) (p rest : List Int) (hg : Good r p) :
    code (strOfNums (encL r p ++ rest)) = 2 ∧ recT (strOfNums (encL r p ++ rest)) = r ∧ sizeT (strOfNums (encL r p ++ rest)) = (encL r p).length := by
  obtain ⟨e1, e2, e3, e4, hb⟩ := head_enc r p (encL r p ++ rest) hg (take8_enc r p rest)
  have hlen := encL_length r p
  have hsz : (strOfNums (encL r p ++ rest)).size = (encL r p).length + rest.length := by rw [strOfNums_size, List.length_append]
  refine ⟨?_, ?_, ?_⟩
  · unfold code
    rw [if_neg (by rw [hsz]; omega), hb, if_neg (by simp), if_neg (by rw [hsz, e3, e4]; omega)]
  · unfold recT
    rw [e1, e2, e3, str_extract]
    have : List.take ((8 + (r.2.2.size : Int)).toNat - 8) (List.drop 8 (encL r p ++ rest)) = nums r.2.2 := by
      have e : (8 + (r.2.2.size : Int)).toNat - 8 = (nums r.2.2).length := by rw [nums_length]; omega
      rw [e]
      have d : List.drop 8 (encL r p ++ rest) = nums r.2.2 ++ (p ++ rest) := by simp [encL]
      rw [d, List.take_left]
    rw [this, strOfNums_nums]
  · unfold sizeT
    rw [e3, e4, hlen]; omega

theorem code_tail (r : Rec) (p : List Int) (hg : Good r p) (m : Nat) (hm : m < (encL r p).length) : code (strOfNums ((encL r p).take m)) = 0 := by
  have hlen := encL_length r p
  have hsz : (strOfNums ((encL r p).take m)).size = m := by rw [strOfNums_size, List.length_take]; omega
  unfold code
  by_cases h8 : m < 8
  · rw [if_pos (by rw [hsz]; omega)]
  · obtain ⟨e1, e2, e3, e4, hb⟩ := head_enc r p ((encL r p).take m) hg (by
      have := take8_enc r p []
      rw [List.append_nil] at this
      rw [List.take_take, Nat.min_eq_left (by omega)]; exact this)
    rw [if_neg (by rw [hsz]; omega), hb, if_neg (by simp), if_pos (by rw [hsz, e3, e4]; omega)]

def encAll (rs : List (Rec × List Int)) : List Int := rs.flatMap fun x => encL x.1 x.2

theorem dec_encs (rs : List (Rec × List Int)) (hg : ∀ x ∈ rs, Good x.1 x.2) (pre t : List Int) (f : Nat) :
    dec (rs.length + f) (strOfNums (pre ++ encAll rs ++ t)) pre.length =
      (rs.map (·.1) ++ (dec f (strOfNums (pre ++ encAll rs ++ t)) (pre ++ encAll rs).length).1, (dec f (strOfNums (pre ++ encAll rs ++ t)) (pre ++ encAll rs).length).2) := by
  induction rs generalizing pre with
  | nil => simp [encAll]
  | cons x rs ih =>
    have e : pre ++ encAll (x :: rs) ++ t = pre ++ encL x.1 x.2 ++ encAll rs ++ t := by simp [encAll]
    have hl : left (strOfNums (pre ++ encAll (x :: rs) ++ t)) pre.length = strOfNums (encL x.1 x.2 ++ (encAll rs ++ t)) := by
      rw [str_left]; congr 1; simp [encAll]
    obtain ⟨h1, h2, h3⟩ := step_enc x.1 x.2 (encAll rs ++ t) (hg x (by simp))
    rw [← hl] at h1 h2 h3
    rw [List.length_cons, show rs.length + 1 + f = (rs.length + f) + 1 from by omega, dec_two h1, h2, h3]
    have := ih (fun y hy => hg y (by simp [hy])) (pre ++ encL x.1 x.2)
    rw [List.length_append] at this
    rw [e, this]
    have e2 : pre ++ encAll (x :: rs) = pre ++ encL x.1 x.2 ++ encAll rs := by simp [encAll]
    rw [e2]
    simp

theorem encAll_len (rs : List (Rec × List Int)) : rs.length ≤ (encAll rs).length := by
  induction rs with
  | nil => simp
  | cons x rs ih => simp only [encAll, List.flatMap_cons, List.length_append, List.length_cons] at ih ⊢; rw [encL_length]; omega

theorem dec_all (rs : List (Rec × List Int)) (hg : ∀ x ∈ rs, Good x.1 x.2) (t : List Int) (e : Int) (he : ∀ f, 0 < f → ∀ s i, left s i = strOfNums t → dec f s i = ([], i, e)) :
    decL (strOfNums (encAll rs ++ t)) = rs.map (·.1) ∧ decN (strOfNums (encAll rs ++ t)) = (encAll rs).length ∧ decE (strOfNums (encAll rs ++ t)) = e := by
  have hlen := encAll_len rs
  obtain ⟨f, hf⟩ : ∃ f, (strOfNums (encAll rs ++ t)).size + 1 = rs.length + (f + 1) := ⟨(strOfNums (encAll rs ++ t)).size - rs.length, by rw [strOfNums_size, List.length_append]; omega⟩
  have h := dec_encs rs hg [] t (f + 1)
  simp only [List.nil_append, List.length_nil] at h
  have hl : left (strOfNums (encAll rs ++ t)) (encAll rs).length = strOfNums t := by rw [str_left]; simp
  rw [he (f + 1) (by omega) _ _ hl] at h
  unfold decL decN decE
  rw [hf, h]
  simp

theorem code_wrong (j : Int) : code (wrongAt j) = 1 := by
  unfold wrongAt
  repeat' split
  all_goals decide +kernel

theorem wrong_str (j : Int) : wrongAt j = strOfNums (nums (wrongAt j)) := (strOfNums_nums _).symm

end Go.Proofs.Ytlafkpaljibonaa
