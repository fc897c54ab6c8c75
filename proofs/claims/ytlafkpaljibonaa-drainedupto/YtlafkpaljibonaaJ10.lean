import Derived.Test.YtlafkpaljibonaaJ9
import Derived.ChangeKeysEq
import Derived.ProofKit
import Derived.OpenShut
import Derived.JoinedCond
import Derived.ShutString
import Derived.ChangeOld
import Derived.Lib.SmallJoins
import Derived.Deep.Slices
import Derived.Deep.Strs
import Derived.Test.YtlafkpaljibonaaRows
namespace Go.Proofs.Ytlafkpaljibonaa
open Go.RowKit

set_option maxRecDepth 100000 in
set_option maxHeartbeats 2000000 in
theorem sameKeys_any {w : World} {B1 B2 : Nat} {a b : Option Addr} {ca cb : Nat} (W : List (Int × Int)) (oa : w.ownsRow B1 109 2 (.slice a W.length ca) W.length (keyCells W)) (ob : w.ownsRow B2 109 2 (.slice b W.length cb) W.length (keyCells W)) (hW : W.length ≤ 1000000000000) :
    Calls Try.prog 61 #[.slice a W.length ca, .slice b W.length cb] w fun r w' => r = .returned (.bool true) ∧ Below w.heap.size w w' := by
  obtain ⟨a', ca', ha, -, ha0⟩ := own_slice oa
  obtain ⟨b', cb', hb, -, hb0⟩ := own_slice ob
  simp only [Value.slice.injEq, true_and] at ha hb
  obtain ⟨rfl, rfl⟩ := ha
  obtain ⟨rfl, rfl⟩ := hb
  go_enter Try.func61, Try.ntmps61
  go_wp2
  go_loopw [5] (fun i w' => ∃ j : Nat, j ≤ W.length ∧ i = .int .i64 j ∧ Below w.heap.size w w') (fun i _ => W.length - (intOf i).toNat)
  case atStart => exact ⟨0, by omega, rfl, Below.refl _ _⟩
  case round =>
    obtain ⟨j, hj, rfl, bel⟩ := hrel
    by_cases hlt : j < W.length
    · obtain ⟨ga, rfl, hga0, hga⟩ := ha0 (by omega)
      obtain ⟨gq, rfl, hgb0, hgb⟩ := hb0 (by omega)
      have oa' := own_keepAt oa (fun g hg => bel.block g (oa.lt g hg).2) (Nat.le_refl _)
      have ob' := own_keepAt ob (fun g hg => bel.block g (ob.lt g hg).2) (Nat.le_refl _)
      have hjI : (j : Int) < W.length := by omega
      have p0 := oa'.cellAt (j * 2) (by omega)
      have p1 := oa'.cellAt (j * 2 + 1) (by omega)
      have q0 := ob'.cellAt (j * 2) (by omega)
      have q1 := ob'.cellAt (j * 2 + 1) (by omega)
      rw [(keyCells_get W j hlt).1] at p0 q0
      rw [(keyCells_get W j hlt).2] at p1 q1
      generalize W[j] = K at *
      go_wp2
      go_quiet (fail)
      go_wp2
      exact ⟨⟨j + 1, by omega, by go_num, below_dN bel⟩, by simp [intOf]; omega⟩
    · have : j = W.length := by omega
      have hjI : ¬ ((j : Int) < W.length) := by omega
      go_wp2
      go_ret
      exact ⟨rfl, bel⟩

theorem eqItems_self {d : Nat} {e : TypeId} {c : Nat} {xs : Array Value} {w : World} : ∀ is : List Nat, (∀ i ∈ is, ∃ v, (part e xs (i * c)).run Try.prog w = .ok v w ∧ (Op.equalIn d e v v).run Try.prog w = .ok true w) → (Op.eqItems d e c xs xs is).run Try.prog w = .ok true w
  | [], _ => by simp [Op.eqItems]
  | i :: is, h => by
    obtain ⟨v, h1, h2⟩ := h i (List.mem_cons_self)
    have ih := eqItems_self is (fun j hj => h j (List.mem_cons_of_mem _ hj))
    simp only [Op.eqItems, Sem.run_bind, h1, h2, Result.andThen_ok, Bool.not_true, Bool.false_eq_true, if_false]
    exact ih

theorem eq_bools (x0 x1 x2 x3 : Bool) (w : World) : (binOp .eql 55 (.agg #[.bool x0, .bool x1, .bool x2, .bool x3]) (.agg #[.bool x0, .bool x1, .bool x2, .bool x3])).run Try.prog w = .ok (.bool true) w := by
  obtain ⟨i0, hi⟩ : ∃ i, Try.prog.info? 4 = some i := Option.isSome_iff_exists.1 (by kernel_rfl)
  have hc : Try.prog.cellsOf 4 = 1 := by kernel_rfl
  rw [run_eql_struct, run_equalIn_array w 9999 _ _ Try.underlying55 hi, hc]
  rw [eqItems_self _ ?_]
  · rfl
  · intro i hin
    have : i = 0 ∨ i = 1 ∨ i = 2 ∨ i = 3 := by simp at hin; omega
    rcases this with rfl | rfl | rfl | rfl
    · exact ⟨.bool x0, by simp [part, isAgg, run_underlying Try.underlying4], by rw [run_equalIn_bool' w 9998 _ _ _ Try.underlying4]; simp⟩
    · exact ⟨.bool x1, by simp [part, isAgg, run_underlying Try.underlying4], by rw [run_equalIn_bool' w 9998 _ _ _ Try.underlying4]; simp⟩
    · exact ⟨.bool x2, by simp [part, isAgg, run_underlying Try.underlying4], by rw [run_equalIn_bool' w 9998 _ _ _ Try.underlying4]; simp⟩
    · exact ⟨.bool x3, by simp [part, isAgg, run_underlying Try.underlying4], by rw [run_equalIn_bool' w 9998 _ _ _ Try.underlying4]; simp⟩

theorem eq_strs4 (x0 x1 x2 x3 : ByteArray) (w : World) : (binOp .eql 56 (.agg #[.string x0, .string x1, .string x2, .string x3]) (.agg #[.string x0, .string x1, .string x2, .string x3])).run Try.prog w = .ok (.bool true) w := by
  obtain ⟨i0, hi⟩ : ∃ i, Try.prog.info? 9 = some i := Option.isSome_iff_exists.1 (by kernel_rfl)
  have hc : Try.prog.cellsOf 9 = 1 := by kernel_rfl
  rw [run_eql_struct, run_equalIn_array w 9999 _ _ Try.underlying56 hi, hc]
  rw [eqItems_self _ ?_]
  · rfl
  · intro i hin
    have : i = 0 ∨ i = 1 ∨ i = 2 ∨ i = 3 := by simp at hin; omega
    rcases this with rfl | rfl | rfl | rfl
    · exact ⟨.string x0, by simp [part, isAgg, run_underlying Try.underlying9], by rw [run_equalIn_string w 9998 _ _ _ Try.underlying9]; simp⟩
    · exact ⟨.string x1, by simp [part, isAgg, run_underlying Try.underlying9], by rw [run_equalIn_string w 9998 _ _ _ Try.underlying9]; simp⟩
    · exact ⟨.string x2, by simp [part, isAgg, run_underlying Try.underlying9], by rw [run_equalIn_string w 9998 _ _ _ Try.underlying9]; simp⟩
    · exact ⟨.string x3, by simp [part, isAgg, run_underlying Try.underlying9], by rw [run_equalIn_string w 9998 _ _ _ Try.underlying9]; simp⟩

theorem eq_strs6 (x0 x1 x2 x3 x4 x5 : ByteArray) (w : World) : (binOp .eql 60 (.agg #[.string x0, .string x1, .string x2, .string x3, .string x4, .string x5]) (.agg #[.string x0, .string x1, .string x2, .string x3, .string x4, .string x5])).run Try.prog w = .ok (.bool true) w := by
  obtain ⟨i0, hi⟩ : ∃ i, Try.prog.info? 9 = some i := Option.isSome_iff_exists.1 (by kernel_rfl)
  have hc : Try.prog.cellsOf 9 = 1 := by kernel_rfl
  rw [run_eql_struct, run_equalIn_array w 9999 _ _ Try.underlying60 hi, hc]
  rw [eqItems_self _ ?_]
  · rfl
  · intro i hin
    have : i = 0 ∨ i = 1 ∨ i = 2 ∨ i = 3 ∨ i = 4 ∨ i = 5 := by simp at hin; omega
    rcases this with rfl | rfl | rfl | rfl | rfl | rfl
    · exact ⟨.string x0, by simp [part, isAgg, run_underlying Try.underlying9], by rw [run_equalIn_string w 9998 _ _ _ Try.underlying9]; simp⟩
    · exact ⟨.string x1, by simp [part, isAgg, run_underlying Try.underlying9], by rw [run_equalIn_string w 9998 _ _ _ Try.underlying9]; simp⟩
    · exact ⟨.string x2, by simp [part, isAgg, run_underlying Try.underlying9], by rw [run_equalIn_string w 9998 _ _ _ Try.underlying9]; simp⟩
    · exact ⟨.string x3, by simp [part, isAgg, run_underlying Try.underlying9], by rw [run_equalIn_string w 9998 _ _ _ Try.underlying9]; simp⟩
    · exact ⟨.string x4, by simp [part, isAgg, run_underlying Try.underlying9], by rw [run_equalIn_string w 9998 _ _ _ Try.underlying9]; simp⟩
    · exact ⟨.string x5, by simp [part, isAgg, run_underlying Try.underlying9], by rw [run_equalIn_string w 9998 _ _ _ Try.underlying9]; simp⟩

theorem eqFields_self {d : Nat} {xs : Array Value} {w : World} : ∀ fs : List Field, (∀ f ∈ fs, ∃ v, (part f.type xs f.offset).run Try.prog w = .ok v w ∧ (Op.equalIn d f.type v v).run Try.prog w = .ok true w) → (Op.eqFields d xs xs fs).run Try.prog w = .ok true w
  | [], _ => by simp [Op.eqFields]
  | f :: fs, h => by
    obtain ⟨v, h1, h2⟩ := h f (List.mem_cons_self)
    have ih := eqFields_self fs (fun j hj => h j (List.mem_cons_of_mem _ hj))
    simp only [Op.eqFields]
    split
    · simp only [Sem.run_bind, h1, h2, Result.andThen_ok, Bool.not_true, Bool.false_eq_true, if_false]
      exact ih
    · exact ih

theorem slot_fields : ∀ f ∈ (Try.prog.fieldsOf 58).toList, (f.offset, f.type) = (0, 3) ∨ (f.offset, f.type) = (1, 4) ∨ (f.offset, f.type) = (2, 3) ∨ (f.offset, f.type) = (3, 3) ∨ (f.offset, f.type) = (4, 3) ∨ (f.offset, f.type) = (5, 3) := of_decide_eq_true (by kernel_rfl)

theorem eq_slot (s0 s2 s3 s4 s5 : Int) (s1 : Bool) (w : World) : (Op.equalIn 9999 58 (.agg #[.int .i64 s0, .bool s1, .int .i64 s2, .int .i64 s3, .int .i64 s4, .int .i64 s5]) (.agg #[.int .i64 s0, .bool s1, .int .i64 s2, .int .i64 s3, .int .i64 s4, .int .i64 s5])).run Try.prog w = .ok true w := by
  rw [run_equalIn_agg w 9998 _ _ _ (by kernel_rfl) (by kernel_rfl)]
  refine eqFields_self _ fun f hf => ?_
  obtain ⟨nm, ty, off, em⟩ := f
  rcases slot_fields _ hf with e | e | e | e | e | e <;> (simp only [Prod.mk.injEq] at e; obtain ⟨rfl, rfl⟩ := e)
  · exact ⟨.int .i64 s0, by simp [part, isAgg, run_underlying Try.underlying3], by rw [run_equalIn_int w 9997 _ _ _ _ _ Try.underlying3]; simp⟩
  · exact ⟨.bool s1, by simp [part, isAgg, run_underlying Try.underlying4], by rw [run_equalIn_bool' w 9997 _ _ _ Try.underlying4]; simp⟩
  · exact ⟨.int .i64 s2, by simp [part, isAgg, run_underlying Try.underlying3], by rw [run_equalIn_int w 9997 _ _ _ _ _ Try.underlying3]; simp⟩
  · exact ⟨.int .i64 s3, by simp [part, isAgg, run_underlying Try.underlying3], by rw [run_equalIn_int w 9997 _ _ _ _ _ Try.underlying3]; simp⟩
  · exact ⟨.int .i64 s4, by simp [part, isAgg, run_underlying Try.underlying3], by rw [run_equalIn_int w 9997 _ _ _ _ _ Try.underlying3]; simp⟩
  · exact ⟨.int .i64 s5, by simp [part, isAgg, run_underlying Try.underlying3], by rw [run_equalIn_int w 9997 _ _ _ _ _ Try.underlying3]; simp⟩

def sixS (a b c d e f : PSlot) : List Value := slotCs a ++ (slotCs b ++ (slotCs c ++ (slotCs d ++ (slotCs e ++ slotCs f))))

theorem eq_slots (a b c d e f : PSlot) (w : World) : (binOp .eql 59 (.agg (sixS a b c d e f).toArray) (.agg (sixS a b c d e f).toArray)).run Try.prog w = .ok (.bool true) w := by
  obtain ⟨i0, hi, hz⟩ : ∃ i, Try.prog.info? 58 = some i ∧ i.size = 6 := by
    have : (Try.prog.info? 58).map (·.size) = some 6 := by kernel_rfl
    obtain ⟨i, h1, h2⟩ := Option.map_eq_some_iff.1 this
    exact ⟨i, h1, h2⟩
  have hc : Try.prog.cellsOf 58 = 6 := by kernel_rfl
  obtain ⟨fs, hu⟩ : ∃ fs, Try.prog.underlying 58 = some (.struct fs) := ⟨_, Try.underlying58⟩
  rw [run_eql_struct, run_equalIn_array w 9999 _ _ Try.underlying59 hi, hc]
  rw [eqItems_self _ ?_]
  · rfl
  · intro i hin
    have : i = 0 ∨ i = 1 ∨ i = 2 ∨ i = 3 ∨ i = 4 ∨ i = 5 := by simp at hin; omega
    have hp : ∀ off, (part 58 (sixS a b c d e f).toArray off).run Try.prog w = .ok (.agg ((sixS a b c d e f).toArray.extract off (off + 6))) w := by
      intro off
      simp [part, isAgg, run_underlying hu, sizeOf, typeInfo, hi, hz]
    rcases this with rfl | rfl | rfl | rfl | rfl | rfl
    · exact ⟨_, hp _, eq_slot a.st a.served a.since a.conn a.id a.old w⟩
    · exact ⟨_, hp _, eq_slot b.st b.served b.since b.conn b.id b.old w⟩
    · exact ⟨_, hp _, eq_slot c.st c.served c.since c.conn c.id c.old w⟩
    · exact ⟨_, hp _, eq_slot d.st d.served d.since d.conn d.id d.old w⟩
    · exact ⟨_, hp _, eq_slot e.st e.served e.since e.conn e.id e.old w⟩
    · exact ⟨_, hp _, eq_slot f.st f.served f.since f.conn f.id f.old w⟩

end Go.Proofs.Ytlafkpaljibonaa

namespace Go.Proofs.Ytlafkpaljibonaa
open Go.RowKit

theorem wpList_load_midG {P : Program} {ops : Array Oper} {rest : List Oper} {op : Oper} {a : Act} {w : World} {Q : Exit → Act → World → Prop} (hw : Region.wanted op (yielded ops a.tmps) = true) (ty : TypeId) (x : Operand) (ho : op.op = .load ty x)
    (b o : Nat) (hx : a.eval x = .pointer (some ⟨b, o, none⟩)) (cs : List Value) (d : TypeDesc) (hc : w.rangeAt b o cs)
    (hu : P.underlying ty = some d) (hd : d.isRow = true) (hi : (P.info? ty).map (·.size) = some cs.length)
    (h : wpList P ops Q rest (a.put op.dst (.agg cs.toArray)) w) : wpList P ops Q (op :: rest) a w :=
  wpList_step fun K hK => by rw [if_pos hw]; exact wp_load_mid ty x ho b o hx cs d hc hu hd hi (hK _ _ h)

theorem six_info (a b c d e f : PSlot) : (Try.prog.info? 59).map (·.size) = some (sixS a b c d e f).length := by
  show (Try.prog.info? 59).map (·.size) = some 36
  kernel_rfl

theorem look_six (m : PM) (bv : Value) (t : Int) (r : Bool) (j : Nat) {v : Value} (hv : (sixS (m.slot 0) (m.slot 1) (m.slot 2) (m.slot 3) (m.slot 4) (m.slot 5))[j]? = some v) : (lookC m 4 6 bv t r)[8 + j]? = (sixS (m.slot 0) (m.slot 1) (m.slot 2) (m.slot 3) (m.slot 4) (m.slot 5))[j]? := by
  have e : lookC m 4 6 bv t r = [opV m 4 0, opV m 4 1, opV m 4 2, opV m 4 3, seV m 4 0, seV m 4 1, seV m 4 2, seV m 4 3] ++ (sixS (m.slot 0) (m.slot 1) (m.slot 2) (m.slot 3) (m.slot 4) (m.slot 5) ++ [joV m 6 0, joV m 6 1, joV m 6 2, joV m 6 3, joV m 6 4, joV m 6 5, bv, .int .i64 t, .bool r]) := rfl
  have hj : j < (sixS (m.slot 0) (m.slot 1) (m.slot 2) (m.slot 3) (m.slot 4) (m.slot 5)).length := (List.getElem?_eq_some_iff.1 hv).1
  rw [e, List.getElem?_append_right (by simp), List.getElem?_append_left (by simpa using hj)]
  simp

set_option maxRecDepth 100000 in
set_option maxHeartbeats 4000000 in
theorem alike_any {w : World} {B1 B2 : Nat} {a b : Option Addr} {ca cb : Nat} (m : PM) (oa : w.ownsRow B1 109 2 (.slice a m.waits.length ca) m.waits.length (keyCells m.waits)) (ob : w.ownsRow B2 109 2 (.slice b m.waits.length cb) m.waits.length (keyCells m.waits)) (hW : m.waits.length ≤ 1000000000000) :
    Calls Try.prog 28 #[.agg (lookC m 4 6 (.slice a m.waits.length ca) m.time true).toArray, .agg (lookC m 4 6 (.slice b m.waits.length cb) m.time true).toArray] w fun r w' => r = .returned (.bool true) ∧ Below w.heap.size w w' := by
  have ks : Hid (∀ w', Below w.heap.size w w' → Calls Try.prog 61 #[.slice a m.waits.length ca, .slice b m.waits.length cb] w' fun r w'' => r = .returned (.bool true) ∧ Below w'.heap.size w' w'') := fun w' hb => sameKeys_any m.waits (own_keepAt oa (fun g hg => hb.block g (oa.lt g hg).2) (Nat.le_refl _)) (own_keepAt ob (fun g hg => hb.block g (ob.lt g hg).2) (Nat.le_refl _)) hW
  obtain ⟨xa, xb, hb⟩ := two_blks w (lookC m 4 6 (.slice a m.waits.length ca) m.time true) (lookC m 4 6 (.slice b m.waits.length cb) m.time true) 63 63
  have a50 := xa.cell (k := 50) (u := .slice a m.waits.length ca) rfl
  have b50 := xb.cell (k := 50) (u := .slice b m.waits.length cb) rfl
  have E1 : ∀ w, (binOp .eql 55 (.agg #[.bool (m.con 0).op, .bool (m.con 1).op, .bool (m.con 2).op, .bool (m.con 3).op]) (.agg #[.bool (m.con 0).op, .bool (m.con 1).op, .bool (m.con 2).op, .bool (m.con 3).op])).run Try.prog w = .ok (.bool true) w := fun w => eq_bools _ _ _ _ w
  have E2 : ∀ w, (binOp .eql 56 (.agg #[.string (strOfNums (m.con 0).sent), .string (strOfNums (m.con 1).sent), .string (strOfNums (m.con 2).sent), .string (strOfNums (m.con 3).sent)]) (.agg #[.string (strOfNums (m.con 0).sent), .string (strOfNums (m.con 1).sent), .string (strOfNums (m.con 2).sent), .string (strOfNums (m.con 3).sent)])).run Try.prog w = .ok (.bool true) w := fun w => eq_strs4 _ _ _ _ w
  have E3 : ∀ w, (binOp .eql 59 (.agg (sixS (m.slot 0) (m.slot 1) (m.slot 2) (m.slot 3) (m.slot 4) (m.slot 5)).toArray) (.agg (sixS (m.slot 0) (m.slot 1) (m.slot 2) (m.slot 3) (m.slot 4) (m.slot 5)).toArray)).run Try.prog w = .ok (.bool true) w := fun w => eq_slots (m.slot 0) (m.slot 1) (m.slot 2) (m.slot 3) (m.slot 4) (m.slot 5) w
  have hI : (Try.prog.info? 59).map (·.size) = some (sixS (m.slot 0) (m.slot 1) (m.slot 2) (m.slot 3) (m.slot 4) (m.slot 5)).length := six_info _ _ _ _ _ _
  have E4 : ∀ w, (binOp .eql 60 (.agg #[.string (jobB (m.slot 0)), .string (jobB (m.slot 1)), .string (jobB (m.slot 2)), .string (jobB (m.slot 3)), .string (jobB (m.slot 4)), .string (jobB (m.slot 5))]) (.agg #[.string (jobB (m.slot 0)), .string (jobB (m.slot 1)), .string (jobB (m.slot 2)), .string (jobB (m.slot 3)), .string (jobB (m.slot 4)), .string (jobB (m.slot 5))])).run Try.prog w = .ok (.bool true) w := fun w => eq_strs6 _ _ _ _ _ _ w
  have C : Hid (∀ w1, Below ((w.alloc (.cells (lookC m 4 6 (.slice a m.waits.length ca) m.time true).toArray 63)).alloc (.cells (lookC m 4 6 (.slice b m.waits.length cb) m.time true).toArray 63)).heap.size ((w.alloc (.cells (lookC m 4 6 (.slice a m.waits.length ca) m.time true).toArray 63)).alloc (.cells (lookC m 4 6 (.slice b m.waits.length cb) m.time true).toArray 63)) w1 → Blk w1 w.heap.size 63 (lookC m 4 6 (.slice a m.waits.length ca) m.time true) ∧ Blk w1 (w.heap.size + 1) 63 (lookC m 4 6 (.slice b m.waits.length cb) m.time true)) := fun w1 h => ⟨xa.below h, xb.below h⟩
  go_enter Try.func28, Try.ntmps28
  go_wp2_with fail
  refine (ks.out _ hb).mono ?_
  rintro e w1 ⟨rfl, hb1⟩
  obtain ⟨ya, yb⟩ := C.out _ hb1
  have hbz : Below w.heap.size w w1 := hb.trans (hb1.mono hb.size)
  clear hb hb1 a50 b50 C ks xa xb oa ob
  have p0 := ya.cell (k := 0) (u := .bool (m.con 0).op) rfl
  have p1 := ya.cell (k := 1) (u := .bool (m.con 1).op) rfl
  have p2 := ya.cell (k := 2) (u := .bool (m.con 2).op) rfl
  have p3 := ya.cell (k := 3) (u := .bool (m.con 3).op) rfl
  have p4 := ya.cell (k := 4) (u := .string (strOfNums (m.con 0).sent)) rfl
  have p5 := ya.cell (k := 5) (u := .string (strOfNums (m.con 1).sent)) rfl
  have p6 := ya.cell (k := 6) (u := .string (strOfNums (m.con 2).sent)) rfl
  have p7 := ya.cell (k := 7) (u := .string (strOfNums (m.con 3).sent)) rfl
  have p44 := ya.cell (k := 44) (u := .string (jobB (m.slot 0))) rfl
  have p45 := ya.cell (k := 45) (u := .string (jobB (m.slot 1))) rfl
  have p46 := ya.cell (k := 46) (u := .string (jobB (m.slot 2))) rfl
  have p47 := ya.cell (k := 47) (u := .string (jobB (m.slot 3))) rfl
  have p48 := ya.cell (k := 48) (u := .string (jobB (m.slot 4))) rfl
  have p49 := ya.cell (k := 49) (u := .string (jobB (m.slot 5))) rfl
  have p51 := ya.cell (k := 51) (u := .int .i64 m.time) rfl
  have p52 := ya.cell (k := 52) (u := .bool true) rfl
  have q0 := yb.cell (k := 0) (u := .bool (m.con 0).op) rfl
  have q1 := yb.cell (k := 1) (u := .bool (m.con 1).op) rfl
  have q2 := yb.cell (k := 2) (u := .bool (m.con 2).op) rfl
  have q3 := yb.cell (k := 3) (u := .bool (m.con 3).op) rfl
  have q4 := yb.cell (k := 4) (u := .string (strOfNums (m.con 0).sent)) rfl
  have q5 := yb.cell (k := 5) (u := .string (strOfNums (m.con 1).sent)) rfl
  have q6 := yb.cell (k := 6) (u := .string (strOfNums (m.con 2).sent)) rfl
  have q7 := yb.cell (k := 7) (u := .string (strOfNums (m.con 3).sent)) rfl
  have q44 := yb.cell (k := 44) (u := .string (jobB (m.slot 0))) rfl
  have q45 := yb.cell (k := 45) (u := .string (jobB (m.slot 1))) rfl
  have q46 := yb.cell (k := 46) (u := .string (jobB (m.slot 2))) rfl
  have q47 := yb.cell (k := 47) (u := .string (jobB (m.slot 3))) rfl
  have q48 := yb.cell (k := 48) (u := .string (jobB (m.slot 4))) rfl
  have q49 := yb.cell (k := 49) (u := .string (jobB (m.slot 5))) rfl
  have q51 := yb.cell (k := 51) (u := .int .i64 m.time) rfl
  have q52 := yb.cell (k := 52) (u := .bool true) rfl
  have ra : w1.rangeAt w.heap.size 8 (sixS (m.slot 0) (m.slot 1) (m.slot 2) (m.slot 3) (m.slot 4) (m.slot 5)) := fun j v hv => ya.cell (by rw [look_six m _ _ _ j hv]; exact hv)
  have rb : w1.rangeAt (w.heap.size + 1) 8 (sixS (m.slot 0) (m.slot 1) (m.slot 2) (m.slot 3) (m.slot 4) (m.slot 5)) := fun j v hv => yb.cell (by rw [look_six m _ _ _ j hv]; exact hv)
  clear ya yb
  generalize sixS (m.slot 0) (m.slot 1) (m.slot 2) (m.slot 3) (m.slot 4) (m.slot 5) = SL at *
  generalize (m.con 0).op = o0 at *
  generalize strOfNums (m.con 0).sent = t0 at *
  generalize (m.con 1).op = o1 at *
  generalize strOfNums (m.con 1).sent = t1 at *
  generalize (m.con 2).op = o2 at *
  generalize strOfNums (m.con 2).sent = t2 at *
  generalize (m.con 3).op = o3 at *
  generalize strOfNums (m.con 3).sent = t3 at *
  generalize jobB (m.slot 0) = j0 at *
  generalize jobB (m.slot 1) = j1 at *
  generalize jobB (m.slot 2) = j2 at *
  generalize jobB (m.slot 3) = j3 at *
  generalize jobB (m.slot 4) = j4 at *
  generalize jobB (m.slot 5) = j5 at *
  generalize (lookC m 4 6 (.slice a m.waits.length ca) m.time true).toArray = VA at *
  generalize (lookC m 4 6 (.slice b m.waits.length cb) m.time true).toArray = VB at *
  go_wp2_with (first | (refine wpList_load_midG ?_ 59 (.tmp 27) rfl w.heap.size 8 rfl SL _ ra Try.underlying59 rfl hI ?_; · rfl) | (refine wpList_load_midG ?_ 59 (.tmp 29) rfl (w.heap.size + 1) 8 rfl SL _ rb Try.underlying59 rfl hI ?_; · rfl))
  go_ret
  exact ⟨rfl, hbz⟩
end Go.Proofs.Ytlafkpaljibonaa

namespace Go.Proofs.Ytlafkpaljibonaa

/-- The raw steps of a script, where they lie. -/
def IsKSteps (w : World) (a : Option Addr) (len : Nat) (X : Nat → KSt) : Prop :=
  len = 0 ∨ ∃ b off, a = some ⟨b, off, none⟩ ∧ b < w.heap.size ∧ ∀ k, k < len → ∀ j u, ((X k).cells)[j]? = some u → w.cell? ⟨b, off + k * 12 + j, none⟩ = some u

def ktot (X : Nat → KSt) : Nat → Nat
  | 0 => 0
  | k + 1 => ktot X k + (X k).s.size + 520

theorem ktot_mono (X : Nat → KSt) {j k : Nat} (h : j ≤ k) : ktot X j ≤ ktot X k := by
  induction k with
  | zero => have : j = 0 := by omega
            subst this; exact Nat.le_refl _
  | succ k ih =>
    by_cases e : j = k + 1
    · subst e; exact Nat.le_refl _
    · have := ih (by omega)
      simp only [ktot]; omega

end Go.Proofs.Ytlafkpaljibonaa
namespace Go.Proofs.Ytlafkpaljibonaa.kscript
open Go.ChangeShapes Go.WideShapes Go.ChangeAt Go.RowKit Go.Joins Go.Deep Go.Proofs.Ytlafkpaljibonaa

set_option maxRecDepth 100000 in
theorem own : ownKnob Try.prog.godebug = none := by kernel_rfl
set_option maxRecDepth 100000 in
theorem laidOut : laidOutB Try.prog = true := by kernel_rfl
set_option maxRecDepth 100000 in
theorem cellsCfg : Try.prog.cellsOf 44 = 7 := by kernel_rfl
set_option maxRecDepth 100000 in
theorem cellsInt : Try.prog.cellsOf 3 = 1 := by kernel_rfl
set_option maxRecDepth 100000 in
theorem cellsBool : Try.prog.cellsOf 4 = 1 := by kernel_rfl
set_option maxRecDepth 100000 in
theorem cellsStr : Try.prog.cellsOf 9 = 1 := by kernel_rfl
set_option maxRecDepth 100000 in
theorem cellsStep : Try.prog.cellsOf 51 = 12 := by kernel_rfl

theorem array7 {α : Type} {cs : Array α} (h : cs.size = 7) : ∃ c0 c1 c2 c3 c4 c5 c6, cs = #[c0, c1, c2, c3, c4, c5, c6] := by
  obtain ⟨l⟩ := cs
  match l, h with
  | [c0, c1, c2, c3, c4, c5, c6], _ => exact ⟨c0, c1, c2, c3, c4, c5, c6, rfl⟩

section
variable {P : Program} {H : Type} {enc : TypeId × Value → H} {w : World} {base : Nat} {spare : Nat → Bool} {held : Bool}
theorem trod_struct7 {t : TypeId} {f0 f1 f2 f3 f4 f5 f6 : Field} {fuel : Nat} {cs : List Value} {x : DataW H × List MemPlace} (ht : P.underlying t = some (.struct #[f0, f1, f2, f3, f4, f5, f6])) (h : DataW.trod enc P w base spare held fuel t cs = some x) :
    ∃ y0 y1 y2 y3 y4 y5 y6 n, DataW.trod enc P w base spare held n f0.type ((cs.drop f0.offset).take (P.cellsOf f0.type)) = some y0 ∧ DataW.trod enc P w base spare held n f1.type ((cs.drop f1.offset).take (P.cellsOf f1.type)) = some y1 ∧ DataW.trod enc P w base spare held n f2.type ((cs.drop f2.offset).take (P.cellsOf f2.type)) = some y2 ∧ DataW.trod enc P w base spare held n f3.type ((cs.drop f3.offset).take (P.cellsOf f3.type)) = some y3 ∧ DataW.trod enc P w base spare held n f4.type ((cs.drop f4.offset).take (P.cellsOf f4.type)) = some y4 ∧ DataW.trod enc P w base spare held n f5.type ((cs.drop f5.offset).take (P.cellsOf f5.type)) = some y5 ∧ DataW.trod enc P w base spare held n f6.type ((cs.drop f6.offset).take (P.cellsOf f6.type)) = some y6 := by
  obtain ⟨xs, n, _, rfl, hl, hlen, hf⟩ := DataW.trod_struct ht h
  match xs, hlen with
  | [y0, y1, y2, y3, y4, y5, y6], _ => exact ⟨y0, y1, y2, y3, y4, y5, y6, n, by simpa using hf 0 f0 rfl, by simpa using hf 1 f1 rfl, by simpa using hf 2 f2 rfl, by simpa using hf 3 f3 rfl, by simpa using hf 4 f4 rfl, by simpa using hf 5 f5 rfl, by simpa using hf 6 f6 rfl⟩

theorem open_agg7 {r : Reach} {b0 : Nat} {t : TypeId} {f0 f1 f2 f3 f4 f5 f6 : Field} {v : Value} {d : DataW H} {p : List MemPlace} (hs : P.underlying t = some (.struct #[f0, f1, f2, f3, f4, f5, f6])) (hone : oneCellFields P #[f0, f1, f2, f3, f4, f5, f6] = true) (hC : P.cellsOf t = 7)
    (hv : Value.okWide P w r b0 t v) (h : DataW.Trod enc P w base spare held t v d p) :
    ∃ (v0 v1 v2 v3 v4 v5 v6 : Value) (y0 y1 y2 y3 y4 y5 y6 : DataW H × List MemPlace) (n : Nat), v = .agg #[v0, v1, v2, v3, v4, v5, v6] ∧ DataW.trod enc P w base spare held n f0.type [v0] = some y0 ∧ DataW.trod enc P w base spare held n f1.type [v1] = some y1 ∧ DataW.trod enc P w base spare held n f2.type [v2] = some y2 ∧ DataW.trod enc P w base spare held n f3.type [v3] = some y3 ∧ DataW.trod enc P w base spare held n f4.type [v4] = some y4 ∧ DataW.trod enc P w base spare held n f5.type [v5] = some y5 ∧ DataW.trod enc P w base spare held n f6.type [v6] = some y6 := by
  obtain ⟨cs, rfl, hsz⟩ := okWide_struct hs hv
  obtain ⟨c0, c1, c2, c3, c4, c5, c6, rfl⟩ := array7 (hsz.trans hC)
  obtain ⟨fuel, hf⟩ := h
  obtain ⟨y0, y1, y2, y3, y4, y5, y6, n, h0, h1, h2, h3, h4, h5, h6⟩ := trod_struct7 hs hf
  obtain ⟨o0, k0⟩ := hone_of hone 0 f0 rfl
  obtain ⟨o1, k1⟩ := hone_of hone 1 f1 rfl
  obtain ⟨o2, k2⟩ := hone_of hone 2 f2 rfl
  obtain ⟨o3, k3⟩ := hone_of hone 3 f3 rfl
  obtain ⟨o4, k4⟩ := hone_of hone 4 f4 rfl
  obtain ⟨o5, k5⟩ := hone_of hone 5 f5 rfl
  obtain ⟨o6, k6⟩ := hone_of hone 6 f6 rfl
  exact ⟨c0, c1, c2, c3, c4, c5, c6, y0, y1, y2, y3, y4, y5, y6, n, rfl, by simpa [Value.cells, o0, k0] using h0, by simpa [Value.cells, o1, k1] using h1, by simpa [Value.cells, o2, k2] using h2, by simpa [Value.cells, o3, k3] using h3, by simpa [Value.cells, o4, k4] using h4, by simpa [Value.cells, o5, k5] using h5, by simpa [Value.cells, o6, k6] using h6⟩
end

set_option maxRecDepth 100000 in
theorem wf_bd {n : Int} (h : (Lit.int .i64 n).wf = true) : i64R n := by
  simpa [i64R, Lit.wf, IntKind.min, IntKind.max, IntKind.signed, IntKind.bits] using h

set_option maxRecDepth 100000 in
/-- A row of settings is one of ours. -/
theorem cfg_of {H : Type} {enc : TypeId × Value → H} {W : World} {r : Reach} {b0 : Nat} {v : Value} {d : DataW H} {p : List MemPlace} (hv : Value.okWide Try.prog W r b0 44 v)
    (h : DataW.Trod enc Try.prog W 0 (fun _ => true) true 44 v d p) : ∃ c : Cfg, v = c.val ∧ c.in64 := by
  obtain ⟨v0, v1, v2, v3, v4, v5, v6, y0, y1, y2, y3, y4, y5, y6, n, rfl, h0, h1, h2, h3, h4, h5, h6⟩ := open_agg7 Try.underlying44 (by kernel_rfl) cellsCfg hv h
  obtain ⟨k0, z0, -, w0⟩ := DataW.trod_int Try.underlying3 h0
  obtain ⟨k1, z1, -⟩ := DataW.trod_bool Try.underlying4 h1
  obtain ⟨k2, z2, -, w2⟩ := DataW.trod_int Try.underlying3 h2
  obtain ⟨k3, z3, -, w3⟩ := DataW.trod_int Try.underlying3 h3
  obtain ⟨k4, z4, -, w4⟩ := DataW.trod_int Try.underlying3 h4
  obtain ⟨k5, z5, -, w5⟩ := DataW.trod_int Try.underlying3 h5
  obtain ⟨k6, z6, -, w6⟩ := DataW.trod_int Try.underlying3 h6
  simp at z0 z1 z2 z3 z4 z5 z6
  subst z0 z1 z2 z3 z4 z5 z6
  exact ⟨⟨k0, k1, k2, k3, k4, k5, k6⟩, rfl, wf_bd w0, wf_bd w2, wf_bd w3, wf_bd w4, wf_bd w5, wf_bd w6⟩

theorem bulk_pos {H : Type} (d : DataW H) : 1 ≤ Rows.uptoBulk d := by
  rcases d with l | _ | _ | ⟨_, _⟩ | _ | ⟨_, _⟩ | _ | _
  · cases l <;> simp [Rows.uptoBulk]
  all_goals simp [Rows.uptoBulk]

theorem bulkAll_append {H : Type} : ∀ (a b : List (DataW H)), Rows.uptoBulkAll (a ++ b) = Rows.uptoBulkAll a + Rows.uptoBulkAll b
  | [], b => by simp [Rows.uptoBulkAll]
  | x :: a, b => by
    have := bulkAll_append a b
    simp only [List.cons_append, Rows.uptoBulkAll, this]
    omega

theorem bulk_tot {H : Type} (D : Nat → DataW H) (X : Nat → KSt) : ∀ n, (∀ k, k < n → (X k).s.size + 14 ≤ Rows.uptoBulk (D k)) → ktot X n ≤ 38 * Rows.uptoBulkAll ((List.range n).map D)
  | 0, _ => Nat.zero_le _
  | n + 1, h => by
    have ih := bulk_tot D X n (fun k hk => h k (by omega))
    have hn := h n (by omega)
    rw [List.range_succ, List.map_append, bulkAll_append]
    simp only [ktot, List.map_cons, List.map_nil, Rows.uptoBulkAll]
    omega

set_option maxRecDepth 100000 in
set_option maxHeartbeats 1000000 in
theorem step_of {H : Type} {enc : TypeId × Value → H} {W : World} {n : Nat} {cs : List Value} {x : DataW H × List MemPlace} (hl : cs.length = 12) (h : DataW.trod enc Try.prog W 0 (fun _ => true) true n 51 cs = some x) :
    ∃ s : KSt, cs = s.cells ∧ s.in64 ∧ s.s.size + 14 ≤ Rows.uptoBulk x.1 := by
  obtain ⟨xs, n', _, rfl, hl', hlen, hf⟩ := DataW.trod_struct Try.underlying51 h
  match cs, hl with
  | [v0, v1, v2, v3, v4, v5, v6, v7, v8, v9, v10, v11], _ =>
    match xs, hlen with
    | [y0, y1, y2, y3, y4, y5], _ =>
      have h0 := hf 0 _ rfl
      have h1 := hf 1 _ rfl
      have h2 := hf 2 _ rfl
      have h3 := hf 3 _ rfl
      have h4 := hf 4 _ rfl
      have h5 := hf 5 _ rfl
      simp [cellsInt, cellsStr, cellsCfg] at h0 h1 h2 h3 h4 h5
      obtain ⟨a0, z0, -, w0⟩ := DataW.trod_int Try.underlying3 h0
      obtain ⟨a1, z1, -, w1⟩ := DataW.trod_int Try.underlying3 h1
      obtain ⟨a2, z2, -, w2⟩ := DataW.trod_int Try.underlying3 h2
      obtain ⟨a3, z3, -, w3⟩ := DataW.trod_int Try.underlying3 h3
      obtain ⟨a4, z4, e4, -⟩ := DataW.trod_string Try.underlying9 h4
      obtain ⟨xs5, n5, _, e5, hl5, hlen5, hf5⟩ := DataW.trod_struct Try.underlying44 h5
      match xs5, hlen5 with
      | [c0, c1, c2, c3, c4, c5, c6], _ =>
        have g0 := hf5 0 _ rfl
        have g1 := hf5 1 _ rfl
        have g2 := hf5 2 _ rfl
        have g3 := hf5 3 _ rfl
        have g4 := hf5 4 _ rfl
        have g5 := hf5 5 _ rfl
        have g6 := hf5 6 _ rfl
        simp [cellsInt, cellsBool] at g0 g1 g2 g3 g4 g5 g6
        obtain ⟨b0, q0, -, u0⟩ := DataW.trod_int Try.underlying3 g0
        obtain ⟨b1, q1, -⟩ := DataW.trod_bool Try.underlying4 g1
        obtain ⟨b2, q2, -, u2⟩ := DataW.trod_int Try.underlying3 g2
        obtain ⟨b3, q3, -, u3⟩ := DataW.trod_int Try.underlying3 g3
        obtain ⟨b4, q4, -, u4⟩ := DataW.trod_int Try.underlying3 g4
        obtain ⟨b5, q5, -, u5⟩ := DataW.trod_int Try.underlying3 g5
        obtain ⟨b6, q6, -, u6⟩ := DataW.trod_int Try.underlying3 g6
        simp at z0 z1 z2 z3 z4 q0 q1 q2 q3 q4 q5 q6
        subst z0 z1 z2 z3 z4 q0 q1 q2 q3 q4 q5 q6
        refine ⟨⟨a0, a1, a2, a3, a4, ⟨b0, b1, b2, b3, b4, b5, b6⟩⟩, rfl, ⟨wf_bd w0, wf_bd w1, wf_bd w2, wf_bd w3, wf_bd u0, wf_bd u2, wf_bd u3, wf_bd u4, wf_bd u5, wf_bd u6⟩, ?_⟩
        subst e4
        have e : a4.data.toList.length = a4.size := by rw [Array.length_toList]; rfl
        have p0 := bulk_pos y0.1
        have p1 := bulk_pos y1.1
        have p2 := bulk_pos y2.1
        have p3 := bulk_pos y3.1
        have p5 : 8 ≤ Rows.uptoBulk y5.1 := by
          rw [e5]
          have r0 := bulk_pos c0.1
          have r1 := bulk_pos c1.1
          have r2 := bulk_pos c2.1
          have r3 := bulk_pos c3.1
          have r4 := bulk_pos c4.1
          have r5 := bulk_pos c5.1
          have r6 := bulk_pos c6.1
          simp only [List.map_cons, List.map_nil, Rows.uptoBulk, Rows.uptoBulkAll]
          omega
        simp only [List.map_cons, List.map_nil, Rows.uptoBulk, Rows.uptoBulkAll]
        omega

set_option maxRecDepth 100000 in
theorem steps_of {H : Type} {enc : TypeId × Value → H} {W : World} {a : Option Addr} {len cap : Nat} {d : DataW H} {p : List MemPlace}
    (h : DataW.Trod enc Try.prog W 0 (fun _ => true) true 45 (.slice a len cap) d p) : ∃ X, IsKSteps W a len X ∧ (∀ k, k < len → (X k).in64) ∧ ktot X len ≤ 38 * Rows.uptoBulk d := by
  obtain ⟨fuel, hf⟩ := h
  rcases open_slice Try.underlying45 hf with ⟨hcs, _⟩ | ⟨x, l, c, m, n, D, Pl, hcs, _, hl, hm, hmm, hd, hx⟩
  · simp [Value.cells] at hcs
    obtain ⟨rfl, rfl, rfl⟩ := hcs
    exact ⟨fun _ => ⟨0, 0, 0, 0, ⟨#[]⟩, ⟨0, false, 0, 0, 0, 0, 0⟩⟩, .inl rfl, fun k hk => by omega, Nat.zero_le _⟩
  · simp [Value.cells] at hcs
    obtain ⟨rfl, rfl, rfl⟩ := hcs
    simp only [Prod.mk.injEq] at hd
    obtain ⟨rfl, -⟩ := hd
    have hle : len ≤ m := by rw [hmm]; split <;> omega
    rw [cellsStep] at hx
    have each : ∀ k, k < len → ∃ s : KSt, (∀ j u, s.cells[j]? = some u → W.cell? ((x.add (k * 12)).add j) = some u) ∧ s.in64 ∧ s.s.size + 14 ≤ Rows.uptoBulk (D k) := by
      intro k hk
      obtain ⟨cs, h1, h2⟩ := hx k (by omega)
      obtain ⟨_, hlc, hcell⟩ := World.cells?_some h1
      obtain ⟨s, rfl, h64, hb⟩ := step_of hlc h2
      refine ⟨s, ?_, h64, hb⟩
      intro j u hu
      obtain ⟨hj, -⟩ := List.getElem?_eq_some_iff.1 hu
      have := hcell j (by rw [hlc] at hj; exact hj)
      rw [this]; exact hu
    haveI : Inhabited KSt := ⟨⟨0, 0, 0, 0, ⟨#[]⟩, ⟨0, false, 0, 0, 0, 0, 0⟩⟩⟩
    obtain ⟨X, hX⟩ := choose_lt each
    refine ⟨X, ?_, fun k hk => (hX k hk).2.1, ?_⟩
    · by_cases h0 : len = 0
      · exact .inl h0
      · right
        obtain ⟨b, off, spot⟩ := x
        have hc := (hX 0 (by omega)).1 0 (.int .i64 (X 0).kind) rfl
        have hspot : spot = none := by simpa [Addr.add] using World.cell?_spot hc
        subst hspot
        have hadd : ∀ i j : Nat, ((⟨b, i, none⟩ : Addr).add j) = ⟨b, i + j, none⟩ := fun i j => by unfold Addr.add; split <;> simp_all
        refine ⟨b, off, rfl, ?_, ?_⟩
        · have := World.block_lt_of_cell? _ _ hc
          rw [hadd, hadd] at this
          exact this
        · intro k hk j u hu
          have := (hX k hk).1 j u hu
          rw [hadd, hadd] at this
          exact this
    · have := bulk_tot D X len (fun k hk => (hX k hk).2.2)
      simp only [Rows.uptoBulk]
      omega

end Go.Proofs.Ytlafkpaljibonaa.kscript

namespace Go.Proofs.Ytlafkpaljibonaa
open Go.RowKit

/-- What is nobody's is as it was. -/
structure FrN (o : Nat → Tag) (w : World) (o' : Nat → Tag) (w' : World) : Prop where
  os : w'.os = w.os
  tape : w'.tape = w.tape
  output : w'.output = w.output
  size : w.heap.size ≤ w'.heap.size
  clean : Clean o' w'
  tags : ∀ g, g < w.heap.size → o' g = o g
  block : ∀ g, g < w.heap.size → (o g).1 = 0 → w'.heap[g]? = w.heap[g]?

section
variable {q B : Nat} {o o' o1 o2 : Nat → Tag} {w w' w1 w2 : World} {b fb gb : Nat} {m m' n : PM} {sv : Nat → Value} {rv : Value}

theorem FrN.trans (h : FrN o w o1 w1) (k : FrN o1 w1 o2 w2) : FrN o w o2 w2 :=
  ⟨k.os.trans h.os, k.tape.trans h.tape, k.output.trans h.output, Nat.le_trans h.size k.size, k.clean,
   fun g hg => (k.tags g (Nat.lt_of_lt_of_le hg h.size)).trans (h.tags g hg),
   fun g hg hq => (k.block g (Nat.lt_of_lt_of_le hg h.size) (by rw [h.tags g hg]; exact hq)).trans (h.block g hg hq)⟩
theorem Fr.toN (h : Fr q o w o' w') (hq : q ≠ 0) : FrN o w o' w' := ⟨h.os, h.tape, h.output, h.size, h.clean, h.tags, fun g hg h0 => h.block g hg (by omega)⟩
theorem FrN.of_below (hc : Clean o w) (h : Below w.heap.size w w') : FrN o w o w' := (Fr.of_below (q := 1) hc h).toN (by omega)
theorem FrN.below (h : FrN o w o1 w1) (k : Below w1.heap.size w1 w2) : FrN o w o1 w2 := h.trans (FrN.of_below h.clean k)

set_option maxRecDepth 100000 in
set_option maxHeartbeats 1000000 in
theorem opened_any (c : Cfg) (hok : c.ok = true) (ho : Clean o w) :
    Calls Try.prog 22 #[c.val] w fun r w' => ∃ b o', r = .returned (.pointer (some ⟨b, 0, none⟩)) ∧ FMem o' q w' b (newPM c) nilV (.slice none 0 0) ∧ Fr q o w o' w' := by
  have k1 : Hid (∀ w, Clean o w → Calls Try.prog 49 #[c.val] w fun r w' => ∃ b o', r = .returned (.tuple #[.pointer (some ⟨b, 0, none⟩), .int .i64 0]) ∧ FMem o' q w' b (newPM c) nilV (.slice none 0 0) ∧ Fr q o w o' w') := fun w ho => new_yes (q := q) c w ho hok
  have hb0 : Below w.heap.size w (w.alloc (.cells #[.int .i64 c.ch, .bool c.dyn, .int .i64 c.mn, .int .i64 c.mx, .int .i64 c.mr, .int .i64 c.tmo, .int .i64 c.bl] 44)) := (Below.refl _ _).alloc (Nat.le_refl _) _
  unfold Cfg.val at *
  go_enter Try.func22, Try.ntmps22
  go_wp2_with fail
  refine (k1.out _ (ho.le hb0.size)).mono ?_
  rintro e w1 ⟨b, o1, rfl, hm, fr⟩
  go_wp2
  go_ret
  exact ⟨b, o1, rfl, hm, (Fr.of_below ho hb0).trans fr⟩

theorem raw_fit (c : Cfg) : (rawPM c).Fit 0 :=
  ⟨⟨fun _ _ => .inl rfl, fun r hr => by cases hr⟩, ⟨Nat.le_refl _, fun _ _ => Nat.le_refl _, fun r hr => by cases hr⟩, fun _ _ => Nat.zero_le _⟩

theorem new_fit (c : Cfg) : (newPM c).Fit 0 := (raw_fit c).settle

/-- The first k steps, one after another. -/
def PM.doTo (m : PM) (X : Nat → KSt) : Nat → PM
  | 0 => m
  | k + 1 => (m.doTo X k).doM (X k)

theorem PM.Fit.doTo (h : m.Fit B) (X : Nat → KSt) : ∀ k, (m.doTo X k).Fit (B + ktot X k)
  | 0 => h
  | k + 1 => by
    have := (PM.Fit.doTo h X k).doM (X k)
    exact this.mono (by simp only [ktot]; omega)

/-- Two foremen beside one another. -/
structure Pair (o : Nat → Tag) (w : World) (fb gb : Nat) (m n : PM) : Prop where
  f : ∃ sv rv, FMem o 1 w fb m sv rv
  g : ∃ sv rv, FMem o 2 w gb n sv rv

theorem Pair.clean (h : Pair o w fb gb m n) : Clean o w := by
  obtain ⟨_, _, h1⟩ := h.f
  exact h1.clean
theorem Pair.below (h : Pair o w fb gb m n) (hb : Below w.heap.size w w') : Pair o w' fb gb m n := by
  obtain ⟨a, b, h1⟩ := h.f
  obtain ⟨c, d, h2⟩ := h.g
  exact ⟨⟨a, b, h1.below hb⟩, ⟨c, d, h2.below hb⟩⟩
theorem Pair.left1 (h : Pair o w fb gb m n) (hl : Left o 1 w fb m' w') : ∃ o', Pair o' w' fb gb m' n ∧ FrN o w o' w' := by
  obtain ⟨o', sv', rv', h1, h2⟩ := hl
  obtain ⟨c, d, h3⟩ := h.g
  exact ⟨o', ⟨⟨sv', rv', h1⟩, ⟨c, d, h3.fr h2 (by omega)⟩⟩, h2.toN (by omega)⟩
theorem Pair.left2 (h : Pair o w fb gb m n) (hl : Left o 2 w gb m' w') : ∃ o', Pair o' w' fb gb m m' ∧ FrN o w o' w' := by
  obtain ⟨o', sv', rv', h1, h2⟩ := hl
  obtain ⟨c, d, h3⟩ := h.f
  exact ⟨o', ⟨⟨c, d, h3.fr h2 (by omega)⟩, ⟨sv', rv', h1⟩⟩, h2.toN (by omega)⟩

theorem pair_do1 (h : Pair o w fb gb m n) (hf : m.Fit B) (hB : B ≤ 48000000) (x : KSt) (hx : x.in64) (hs : x.s.size ≤ 100000000) :
    Calls Try.prog 23 #[.pointer (some ⟨fb, 0, none⟩), x.val] w fun r w' => r = .returned (.int .i64 (m.doE x)) ∧ ∃ o', Pair o' w' fb gb (m.doM x) n ∧ FrN o w o' w' := by
  obtain ⟨a, b, h1⟩ := h.f
  refine (do_any h1 (by omega) hf hB x hx hs).mono ?_
  rintro r w' ⟨e, hl⟩
  exact ⟨e, h.left1 hl⟩
theorem pair_do2 (h : Pair o w fb gb m n) (hf : n.Fit B) (hB : B ≤ 48000000) (x : KSt) (hx : x.in64) (hs : x.s.size ≤ 100000000) :
    Calls Try.prog 23 #[.pointer (some ⟨gb, 0, none⟩), x.val] w fun r w' => r = .returned (.int .i64 (n.doE x)) ∧ ∃ o', Pair o' w' fb gb m (n.doM x) ∧ FrN o w o' w' := by
  obtain ⟨a, b, h1⟩ := h.g
  refine (do_any h1 (by omega) hf hB x hx hs).mono ?_
  rintro r w' ⟨e, hl⟩
  exact ⟨e, h.left2 hl⟩

theorem IsKSteps.frn {a : Option Addr} {len : Nat} {X : Nat → KSt} (h : IsKSteps w a len X) (hf : FrN o w o' w') (ho : ∀ g, g < w.heap.size → o g = (0, 0)) : IsKSteps w' a len X := by
  rcases h with e | ⟨b, off, e, hbl, hc⟩
  · exact .inl e
  · exact .inr ⟨b, off, e, Nat.lt_of_lt_of_le hbl hf.size, fun k hk j u hu => by rw [World.cell?_of_block (hf.block b hbl (by rw [ho b hbl]))]; exact hc k hk j u hu⟩

end
end Go.Proofs.Ytlafkpaljibonaa

namespace Go.Proofs.Ytlafkpaljibonaa
open Go.RowKit

def noK : Nat → Tag := fun _ => (0, 0)

theorem open_connect (m : PM) {k : Nat} (hk : k < 4) : (m.afterConnect k).chk k = 0 := by
  have hC : isC (k : Int) = true := by simp [isC]; omega
  unfold PM.afterConnect PM.chk
  rw [hC]
  simp only [cond_true, Int.toNat_natCast, Bool.true_and]
  cases ho : (m.con k).op
  · simp only [Bool.not_false, cond_true, PM.connect, upd_same]
  · simp only [Bool.not_true, cond_false, ho, cond_true]

theorem ktot_ge (X : Nat → KSt) : ∀ k, k ≤ ktot X k
  | 0 => Nat.le_refl _
  | k + 1 => by have := ktot_ge X k; simp only [ktot]; omega

theorem kst_info (x : KSt) : (Try.prog.info? 51).map (·.size) = some x.cells.length := by
  show (Try.prog.info? 51).map (·.size) = some 12
  kernel_rfl

theorem setCells_size (b : Nat) : ∀ (vs : List Value) (o : Nat) (w : World), (w.setCells b o vs).heap.size = w.heap.size
  | [], _, _ => rfl
  | v :: vs, o, w => (setCells_size b vs (o + 1) _).trans (by simp [World.setCell])

def zeroL : List Value := lookC ⟨⟨0, false, 0, 0, 0, 0, 0⟩, 0, fun _ => ⟨false, ⟨#[]⟩, []⟩, [], fun _ => newSlot 0⟩ 0 0 (.slice none 0 0) 0 false

/-- A Look is laid into a variable of its own. -/
theorem put_look (w : World) (L : List Value) (hL : L.length = 53) :
    (w.alloc (.cells zeroL.toArray 63)).there w.heap.size 0 L.toArray.size ∧ Below w.heap.size w ((w.alloc (.cells zeroL.toArray 63)).setCells w.heap.size 0 L) ∧ ((w.alloc (.cells zeroL.toArray 63)).setCells w.heap.size 0 L).rangeAt w.heap.size 0 L ∧ w.heap.size < ((w.alloc (.cells zeroL.toArray 63)).setCells w.heap.size 0 L).heap.size := by
  have x := Blk.made w 63 zeroL
  have hz : zeroL.length = 53 := rfl
  have th : (w.alloc (.cells zeroL.toArray 63)).there w.heap.size 0 L.length := by
    intro j hj
    refine ⟨?_, x.frozen _⟩
    rw [x.cell (k := 0 + j) (u := zeroL[j]'(by omega)) (by rw [Nat.zero_add]; exact List.getElem?_eq_getElem _)]
    rfl
  exact ⟨by simpa using th, setCells_below (Nat.le_refl _) _ _ _ ((Below.refl _ _).alloc (Nat.le_refl _) _), World.rangeAt_setCells_same _ _ _ _ th, by rw [setCells_size]; simp⟩

theorem range_below {w w' : World} {b o : Nat} {L : List Value} (h : w.rangeAt b o L) (hb : b < w.heap.size) (hf : Below w.heap.size w w') : w'.rangeAt b o L := fun j v hv => by
  rw [hf.cell (by exact hb)]; exact h j v hv

theorem look_own {w w' : World} {B n : Nat} {v : Value} {xs : List Value} (h : w.ownsRow B 109 2 v n xs) (hb : Below w.heap.size w w') : w'.ownsRow B 109 2 v n xs := own_keepAt h (fun g hg => hb.block g (h.lt g hg).2) (Nat.le_refl _)

end Go.Proofs.Ytlafkpaljibonaa

namespace Go.Proofs.Ytlafkpaljibonaa
open Go.RowKit

theorem bd_firstW_get : ∀ (l : List Req) (k a : Nat), firstW l k = some a → ∃ hl : a - k < l.length, (l[a - k]).stage = 1 ∧ k ≤ a ∧ ∃ t, (l.filter fun r => r.stage == 1) = l[a - k] :: t
  | [], _, _, h => by simp [firstW] at h
  | r :: l, k, a, h => by
    have h' : cond (r.stage == 1) (some k) (firstW l (k + 1)) = some a := h
    cases hr : (r.stage == 1)
    · rw [hr] at h'
      obtain ⟨hl, h1, h2, t, ht⟩ := bd_firstW_get l (k + 1) a h'
      have e : a - k = (a - (k + 1)) + 1 := by omega
      refine ⟨by simp only [List.length_cons]; omega, ?_, by omega, t, ?_⟩
      · simp only [e, List.getElem_cons_succ]; exact h1
      · rw [List.filter_cons_of_neg (by simp [hr]), ht]
        simp only [e, List.getElem_cons_succ]
    · rw [hr] at h'
      simp only [cond_true, Option.some.injEq] at h'
      subst h'
      refine ⟨by simp, ?_, Nat.le_refl _, (l.filter fun r => r.stage == 1), ?_⟩
      · simpa using hr
      · simp [hr]
theorem bd_firstW_none : ∀ (l : List Req) (k : Nat), firstW l k = none → (l.filter fun r => r.stage == 1) = []
  | [], _, _ => rfl
  | r :: l, k, h => by
    have h' : cond (r.stage == 1) (some k) (firstW l (k + 1)) = none := h
    cases hr : (r.stage == 1)
    · rw [hr] at h'
      rw [List.filter_cons_of_neg (by simp [hr])]
      exact bd_firstW_none l (k + 1) h'
    · rw [hr] at h'; simp at h'
theorem bd_fw_some {m : PM} {a : Nat} (h : m.fw = some a) : ∃ ha : a < m.req.length, m.req[a].stage = 1 ∧ ∃ t, (m.req.filter fun r => r.stage == 1) = m.req[a] :: t := by
  obtain ⟨hl, h1, -, t, ht⟩ := bd_firstW_get m.req 0 a h
  exact ⟨hl, h1, t, ht⟩
theorem bd_fw_none {m : PM} (h : m.fw = none) : m.waits = [] := by
  unfold PM.waits
  rw [bd_firstW_none m.req 0 h]; rfl
theorem bd_slotFrom_none {m : PM} {c i : Int} : ∀ {n k : Nat}, m.slotFrom c i k n = none → ∀ s, k ≤ s → s < k + n → m.slotHas c i s = false
  | 0, _, _, s, h1, h2 => by omega
  | n + 1, k, h, s, h1, h2 => by
    simp only [PM.slotFrom] at h
    cases hr : m.slotHas c i k
    · rw [hr] at h
      by_cases e : s = k
      · rw [e]; exact hr
      · exact bd_slotFrom_none h s (by omega) (by omega)
    · rw [hr] at h; simp at h
theorem bd_slotFrom_yes {m : PM} {c i : Int} : ∀ {n k a : Nat}, m.slotFrom c i k n = some a → k ≤ a ∧ a < k + n ∧ m.slotHas c i a = true
  | 0, _, _, h => by simp [PM.slotFrom] at h
  | n + 1, k, a, h => by
    simp only [PM.slotFrom] at h
    cases hr : m.slotHas c i k
    · rw [hr] at h
      have := bd_slotFrom_yes h
      exact ⟨by omega, by omega, this.2.2⟩
    · rw [hr] at h
      simp only [cond_true, Option.some.injEq] at h
      subst h
      exact ⟨Nat.le_refl _, by omega, hr⟩
theorem bd_findFrom_none (c i : Int) : ∀ (l : List Req) (k : Nat), findFrom c i l k = none → ∀ r ∈ l, isKey c i r = false
  | [], _, _, r, hr => by simp at hr
  | x :: l, k, h, r, hr => by
    have h' : cond (isKey c i x) (some k) (findFrom c i l (k + 1)) = none := h
    cases hx : isKey c i x
    · rw [hx] at h'
      rcases List.mem_cons.1 hr with e | e
      · rw [e]; exact hx
      · exact bd_findFrom_none c i l (k + 1) h' r e
    · rw [hx] at h'; simp at h'

def keyR (r : Req) : Int × Int := (r.conn, r.id)
def keyS (s : PSlot) : Int × Int := (s.conn, s.id)

/-- A slot by itself; `a`: there was a Reload. -/
structure PSlot.Fine (a : Bool) (mr : Int) (s : PSlot) : Prop where
  dom : 0 ≤ s.st ∧ s.st ≤ 4
  idle : s.st ≠ 3 → s.since = 0 ∧ s.conn = -1
  none : s.conn = -1 → s.id = 0
  new : s.st = 2 → s.old = false
  srv : a = false → 0 < mr → 0 ≤ s.served ∧ s.served ≤ mr ∧ (s.st = 2 → s.served < mr) ∧ (s.st = 1 → s.served = 0)

/-- What holds of a foreman's state always: the settings may be, each slot is right, each key is in one place, each is of a connection that `P` allows, no more slots than `R` are alive. -/
structure PM.Law (a : Bool) (R : Int) (P : Int → Prop) (m : PM) : Prop where
  cfg : m.set.ok = true
  ch : m.set.ch ≤ R
  loc : ∀ k, k < 6 → (m.slot k).Fine a m.set.mr
  key : ∀ k, k < 6 → (m.slot k).conn = -1 ∨ ∃ r ∈ m.req, keyR r = keyS (m.slot k) ∧ r.stage = 2
  two : ∀ j k, j < 6 → k < 6 → j ≠ k → (m.slot j).conn ≠ -1 → keyS (m.slot j) ≠ keyS (m.slot k)
  dis : (m.req.map keyR).Nodup
  okc : ∀ r ∈ m.req, okC r.conn ∧ P r.conn
  used : m.usedTo 6 ≤ R
  held : ∀ r ∈ m.req, r.stage = 2 → ∃ k, k < 6 ∧ keyS (m.slot k) = keyR r
  stg : ∀ r ∈ m.req, r.stage = 0 ∨ r.stage = 1 ∨ r.stage = 2

theorem nodup_key {l : List Req} (h : (l.map keyR).Nodup) {r s : Req} (hr : r ∈ l) (hs : s ∈ l) (e : keyR r = keyR s) : r = s := by
  induction l with
  | nil => cases hr
  | cons x l ih =>
    rw [List.map_cons, List.nodup_cons] at h
    rcases List.mem_cons.1 hr with r1 | r1 <;> rcases List.mem_cons.1 hs with s1 | s1
    · rw [r1, s1]
    · exact absurd (List.mem_map.2 ⟨s, s1, by rw [← e, r1]⟩) h.1
    · exact absurd (List.mem_map.2 ⟨r, r1, by rw [e, s1]⟩) h.1
    · exact ih h.2 r1 s1

theorem usedTo_mono {m m' : PM} : ∀ n, (∀ k, k < n → (m'.slot k).st = 0 ∨ (m.slot k).st ≠ 0) → m'.usedTo n ≤ m.usedTo n
  | 0, _ => Int.le_refl _
  | n + 1, h => by
    have ih := usedTo_mono (m := m) (m' := m') n fun k hk => h k (by omega)
    have hn := h n (by omega)
    simp only [PM.usedTo]
    by_cases e : (m'.slot n).st = 0
    · rw [e]; simp only [beq_self_eq_true, ↓reduceIte]; split <;> omega
    · have e2 : (m.slot n).st ≠ 0 := by rcases hn with x | x; exact absurd x e; exact x
      simp only [beq_iff_eq, e, e2, if_false]; omega

section
variable {m m' : PM} {a : Bool} {R : Int} {P : Int → Prop}

theorem PM.Law.of' (h : m.Law a R P) (hset : m'.set = m.set)
    (hloc : ∀ k, k < 6 → m'.slot k = m.slot k ∨ ((m'.slot k).Fine a m.set.mr ∧ (m'.slot k).conn = -1))
    (hkey : ∀ k, k < 6 → m'.slot k = m.slot k → (m.slot k).conn ≠ -1 → ∀ r ∈ m.req, keyR r = keyS (m.slot k) → r.stage = 2 → ∃ r' ∈ m'.req, keyR r' = keyS (m.slot k) ∧ r'.stage = 2)
    (hdis : (m'.req.map keyR).Nodup) (hokc : ∀ r ∈ m'.req, okC r.conn ∧ P r.conn) (hu : m'.usedTo 6 ≤ R)
    (hheld : ∀ r ∈ m'.req, r.stage = 2 → ∃ k, k < 6 ∧ keyS (m'.slot k) = keyR r) (hstg : ∀ r ∈ m'.req, r.stage = 0 ∨ r.stage = 1 ∨ r.stage = 2) : m'.Law a R P := by
  refine ⟨by rw [hset]; exact h.cfg, by rw [hset]; exact h.ch, fun k hk => ?_, fun k hk => ?_, fun j k hj hk hjk hc => ?_, hdis, hokc, hu, hheld, hstg⟩
  · rw [hset]
    rcases hloc k hk with e | e
    · rw [e]; exact h.loc k hk
    · exact e.1
  · rcases hloc k hk with e | e
    · by_cases hc : (m.slot k).conn = -1
      · left; rw [e]; exact hc
      · rcases h.key k hk with e2 | ⟨r, hr, h1, h2⟩
        · exact absurd e2 hc
        · right; rw [e]; exact hkey k hk e hc r hr h1 h2
    · exact .inl e.2
  · rcases hloc j hj with e | e
    · rcases hloc k hk with e2 | e2
      · rw [e, e2]; rw [e] at hc; exact h.two j k hj hk hjk hc
      · intro e3
        have := congrArg Prod.fst e3
        simp only [keyS] at this
        rw [e2.2] at this
        exact hc this
    · exact absurd e.2 hc

theorem PM.Law.of (h : m.Law a R P) (hset : m'.set = m.set)
    (hloc : ∀ k, k < 6 → m'.slot k = m.slot k ∨ ((m'.slot k).Fine a m.set.mr ∧ (m'.slot k).conn = -1 ∧ ((m'.slot k).st = 0 ∨ (m.slot k).st ≠ 0)))
    (hkey : ∀ k, k < 6 → m'.slot k = m.slot k → (m.slot k).conn ≠ -1 → ∀ r ∈ m.req, keyR r = keyS (m.slot k) → r.stage = 2 → ∃ r' ∈ m'.req, keyR r' = keyS (m.slot k) ∧ r'.stage = 2)
    (hdis : (m'.req.map keyR).Nodup) (hokc : ∀ r ∈ m'.req, okC r.conn ∧ P r.conn)
    (hheld : ∀ r ∈ m'.req, r.stage = 2 → ∃ k, k < 6 ∧ keyS (m'.slot k) = keyR r) (hstg : ∀ r ∈ m'.req, r.stage = 0 ∨ r.stage = 1 ∨ r.stage = 2) : m'.Law a R P := by
  refine h.of' hset (fun k hk => ?_) hkey hdis hokc (Int.le_trans (usedTo_mono 6 fun k hk => ?_) h.used) hheld hstg
  · rcases hloc k hk with e | e
    · exact .inl e
    · exact .inr ⟨e.1, e.2.1⟩
  · rcases hloc k hk with e | e
    · rw [e]; by_cases h0 : (m.slot k).st = 0
      · exact .inl h0
      · exact .inr h0
    · exact e.2.2

theorem PM.Law.same (h : m.Law a R P) (hset : m'.set = m.set) (hs : m'.slot = m.slot) (hr : m'.req = m.req) : m'.Law a R P :=
  h.of hset (fun k _ => .inl (by rw [hs])) (fun k _ _ _ r hm h1 h2 => ⟨r, by rw [hr]; exact hm, h1, h2⟩) (by rw [hr]; exact h.dis) (by rw [hr]; exact h.okc) (by rw [hr, hs]; exact h.held) (by rw [hr]; exact h.stg)

theorem PM.Law.imp (h : m.Law a R P) {P' : Int → Prop} (hp : ∀ r ∈ m.req, P r.conn → P' r.conn) : m.Law a R P' :=
  ⟨h.cfg, h.ch, h.loc, h.key, h.two, h.dis, fun r hr => ⟨(h.okc r hr).1, hp r hr (h.okc r hr).2⟩, h.used, h.held, h.stg⟩

theorem PM.Law.room {R' : Int} (h : m.Law a R P) (hc : m.set.ch ≤ R') (hu : m.usedTo 6 ≤ R') : m.Law a R' P :=
  ⟨h.cfg, hc, h.loc, h.key, h.two, h.dis, h.okc, hu, h.held, h.stg⟩

theorem PM.Law.held_other (h : m.Law a R P) {j : Nat} (hj : (m.slot j).conn = -1) {r : Req} (hr : r ∈ m.req) (h2 : r.stage = 2) : ∃ k, k < 6 ∧ k ≠ j ∧ keyS (m.slot k) = keyR r := by
  obtain ⟨k, hk, e⟩ := h.held r hr h2
  refine ⟨k, hk, ?_, e⟩
  rintro rfl
  obtain ⟨n, -, e2⟩ := (h.okc r hr).1
  have := congrArg Prod.fst e
  simp only [keyS, keyR] at this
  omega

/-- One slot becomes one without a key. -/
theorem PM.Law.put (h : m.Law a R P) (k : Nat) (s : PSlot) (hf : k < 6 → s.Fine a m.set.mr) (hc : s.conn = -1) (h0 : k < 6 → s.st = 0 ∨ (m.slot k).st ≠ 0) (hk : (m.slot k).conn = -1) : ({ m with slot := upd m.slot k s } : PM).Law a R P := by
  refine h.of rfl (fun j hj => ?_) (fun j _ _ _ r hr h1 h2 => ⟨r, hr, h1, h2⟩) h.dis h.okc (fun r hr h2 => ?_) h.stg
  · by_cases e : j = k
    · subst e; right; simp only [upd_same]; exact ⟨hf hj, hc, h0 hj⟩
    · left; simp only [upd_other _ _ e]
  · obtain ⟨j, hj, hjk, e⟩ := h.held_other hk hr h2
    exact ⟨j, hj, by simp only [upd_other _ _ hjk]; exact e⟩

theorem becomes_fine {mr st : Int} {s : PSlot} (h : s.Fine a mr) (hd : 0 ≤ st ∧ st ≤ 4) (h3 : st ≠ 1) (hn : st = 2 → s.old = false ∧ (a = false → 0 < mr → s.served < mr)) : (s.becomes st).Fine a mr := by
  refine ⟨hd, fun _ => ⟨rfl, rfl⟩, fun _ => rfl, fun e => (hn e).1, fun ha hm => ?_⟩
  obtain ⟨h1, h2, -, -⟩ := h.srv ha hm
  exact ⟨h1, h2, fun e => (hn e).2 ha hm, fun e => absurd e h3⟩

theorem PM.Law.kill (h : m.Law a R P) {k : Nat} (h0 : k < 6 → (m.slot k).st ≠ 0) (hc : (m.slot k).conn = -1) : (m.kill k).Law a R P :=
  h.put k _ (fun hk => becomes_fine (h.loc k hk) (by decide) (by decide) (fun e => by cases e)) rfl (fun hk => .inr (h0 hk)) hc

theorem PM.Law.idle (h : m.Law a R P) {k : Nat} (h0 : k < 6 → (m.slot k).st ≠ 0 ∧ (m.slot k).old = false ∧ (a = false → 0 < m.set.mr → (m.slot k).served < m.set.mr)) (hc : (m.slot k).conn = -1) : (m.becomesAt k 2).Law a R P :=
  h.put k _ (fun hk => becomes_fine (h.loc k hk) (by decide) (by decide) (fun _ => (h0 hk).2)) rfl (fun hk => .inr (h0 hk).1) hc

theorem newSlot_fine (mr st : Int) (hd : 0 ≤ st ∧ st ≤ 4) (h2 : st ≠ 2) : (newSlot st).Fine a mr :=
  ⟨hd, fun _ => ⟨rfl, rfl⟩, fun _ => rfl, fun e => absurd e h2, fun _ hm => ⟨Int.le_refl _, Int.le_of_lt hm, fun e => absurd e h2, fun _ => rfl⟩⟩

theorem PM.Law.empties (h : m.Law a R P) {k : Nat} (hc : (m.slot k).conn = -1) : (m.empties k).Law a R P :=
  h.put k _ (fun _ => newSlot_fine _ 0 (by decide) (by decide)) rfl (fun _ => .inl rfl) hc

theorem usedTo_up {m : PM} {k : Nat} (s : PSlot) (hs : s.st ≠ 0) (h0 : (m.slot k).st = 0) : ∀ n, ({ m with slot := upd m.slot k s } : PM).usedTo n = m.usedTo n + (if k < n then 1 else 0)
  | 0 => by simp [PM.usedTo]
  | n + 1 => by
    have ih := usedTo_up (m := m) (k := k) s hs h0 n
    simp only [PM.usedTo]
    rw [ih]
    by_cases e : n = k
    · subst e
      simp [hs, h0]
    · simp only [upd_other _ _ e]
      generalize (if (m.slot n).st == 0 then (0 : Int) else 1) = y
      by_cases hk : k < n
      · rw [if_pos hk, if_pos (by omega)]; omega
      · rw [if_neg hk, if_neg (by omega)]; omega

theorem PM.Law.start (h : m.Law a R P) {k : Nat} (hk : k < 6) (h0 : (m.slot k).st = 0) (hu : m.usedTo 6 + 1 ≤ R) : (m.startAt k).Law a R P := by
  refine h.of' rfl (fun j hj => ?_) (fun j _ _ _ r hr h1 h2 => ⟨r, hr, h1, h2⟩) h.dis h.okc ?_ (fun r hr h2 => ?_) h.stg
  · by_cases e : j = k
    · subst e; right; simp only [PM.startAt, upd_same]; exact ⟨newSlot_fine _ 1 (by decide) (by decide), rfl⟩
    · left; simp only [PM.startAt, upd_other _ _ e]
  · unfold PM.startAt
    rw [usedTo_up _ (by decide) h0, if_pos hk]; exact hu
  · obtain ⟨j, hj, hjk, e⟩ := h.held_other (((h.loc k hk).idle (by omega)).2) hr h2
    exact ⟨j, hj, by simp only [PM.startAt, upd_other _ _ hjk]; exact e⟩

theorem PM.Law.startTo (h : m.Law a R P) (u : Int) (hu : u = m.usedTo 6) : ∀ k, k ≤ 6 → (startTo m u k).1.Law a R P ∧ (Go.Proofs.Ytlafkpaljibonaa.startTo m u k).2 = (Go.Proofs.Ytlafkpaljibonaa.startTo m u k).1.usedTo 6 ∧ ((Go.Proofs.Ytlafkpaljibonaa.startTo m u k).2 < m.set.ch → ∀ j, j < k → ((Go.Proofs.Ytlafkpaljibonaa.startTo m u k).1.slot j).st ≠ 0)
  | 0, _ => ⟨h, hu, fun _ j hj => by omega⟩
  | k + 1, hk => by
    obtain ⟨ih, e, hz⟩ := PM.Law.startTo h u hu k (by omega)
    have hs := startTo_set m u k
    rw [startTo_succ]
    generalize Go.Proofs.Ytlafkpaljibonaa.startTo m u k = r at *
    cases hc : (decide (r.2 < m.set.ch) && (r.1.slot k).st == 0)
    · refine ⟨ih, e, fun hlt j hj => ?_⟩
      simp only [cond_false] at hlt ⊢
      by_cases ej : j = k
      · subst ej
        simp only [hlt, decide_true, Bool.true_and, beq_eq_false_iff_ne, ne_eq] at hc
        exact hc
      · exact hz hlt j (by omega)
    · simp only [Bool.and_eq_true, decide_eq_true_eq, beq_iff_eq] at hc
      have hch := ih.ch
      rw [hs] at hch
      refine ⟨ih.start (by omega) hc.2 (by omega), ?_, fun hlt j hj => ?_⟩
      · simp only [cond_true]
        rw [usedTo_up _ (by decide) hc.2, if_pos (by omega), ← e]
      · simp only [cond_true] at hlt ⊢
        by_cases ej : j = k
        · subst ej; simp [newSlot]
        · simp only [upd_other _ _ ej]; exact hz (by omega) j (by omega)

theorem full_six {m : PM} : ∀ n, (∀ j, j < n → (m.slot j).st ≠ 0) → m.usedTo n = n
  | 0, _ => rfl
  | n + 1, h => by
    have := full_six n fun j hj => h j (by omega)
    simp only [PM.usedTo, this, beq_iff_eq, h n (by omega), if_false]; omega

theorem Cfg.ok_bd {c : Cfg} (h : c.ok = true) : 1 ≤ c.ch ∧ c.ch ≤ 6 ∧ 0 ≤ c.mr ∧ c.mr ≤ 1000 := by
  simp only [Cfg.ok, Bool.and_eq_true, decide_eq_true_eq] at h
  omega

theorem PM.Law.missing (h : m.Law a R P) : m.startMissing.Law a R P ∧ m.set.ch ≤ m.startMissing.usedTo 6 := by
  obtain ⟨h1, e, hz⟩ := h.startTo _ rfl 6 (Nat.le_refl _)
  refine ⟨h1, ?_⟩
  unfold PM.startMissing
  rw [← e]
  by_cases hlt : (Go.Proofs.Ytlafkpaljibonaa.startTo m (m.usedTo 6) 6).2 < m.set.ch
  · have := full_six 6 (hz hlt)
    rw [← e] at this
    have := (Cfg.ok_bd h.cfg).2.1
    omega
  · omega

theorem missing_slot (m : PM) : ∀ (u : Int) (k j : Nat), (m.slot j).st ≠ 0 → ((startTo m u k).1).slot j = m.slot j
  | u, 0, j, h => rfl
  | u, k + 1, j, h => by
    have ih := missing_slot m u k j h
    rw [startTo_succ]
    cases hc : (decide ((startTo m u k).2 < m.set.ch) && ((startTo m u k).1.slot k).st == 0)
    · exact ih
    · simp only [Bool.and_eq_true, decide_eq_true_eq, beq_iff_eq] at hc
      simp only [cond_true]
      by_cases ej : j = k
      · subst ej; rw [ih] at hc; exact absurd hc.2 h
      · simp only [upd_other _ _ ej]; exact ih
theorem missing_req (m : PM) : ∀ (u : Int) (k : Nat), ((startTo m u k).1).req = m.req
  | u, 0 => rfl
  | u, k + 1 => by
    have ih := missing_req m u k
    rw [startTo_succ]
    cases (decide ((startTo m u k).2 < m.set.ch) && ((startTo m u k).1.slot k).st == 0) <;> exact ih

end
end Go.Proofs.Ytlafkpaljibonaa
