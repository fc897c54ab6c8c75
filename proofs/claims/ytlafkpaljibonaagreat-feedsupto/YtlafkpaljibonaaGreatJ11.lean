import Derived.Test.YtlafkpaljibonaaGreatJ4
import Derived.Test.YtlafkpaljibonaaGreatJ10
import Derived.Test.YtlafkpaljibonaaGreatJ6
namespace Go.Proofs.YtlafkpaljibonaaGreat
open Go.RowKit

theorem badT_eq (t : ByteArray) : badT t = (byt t 0 != 1 || !isKindB (byt t 1) || (256 * byt t 2 + byt t 3 == 0) || decide (200 < 256 * byt t 4 + byt t 5) || decide (7 < byt t 6) || byt t 7 != 0) := by
  have b2 := byt_bd t 2
  have b3 := byt_bd t 3
  rw [Bool.eq_iff_iff]
  cases hK : isKindB (byt t 1)
  · simp [badT, badB, allowedB, hKind, hK]
  · unfold badT badB allowedB hKind hId hLen hPad
    simp only [hK, Bool.or_eq_true, Bool.not_eq_true', Bool.and_eq_false_iff, decide_eq_true_eq, decide_eq_false_iff_not, bne_iff_ne, beq_iff_eq, Bool.true_eq_false, false_or, or_false, Bool.not_true, Bool.false_eq_true]
    omega

set_option maxRecDepth 100000 in
set_option maxHeartbeats 2000000 in
theorem refHead_raw (t : ByteArray) (w : World) (h : 8 ≤ (t.size : Int)) (hmax : (t.size : Int) ≤ 1000000000000) :
    Calls Tryz.prog 107 #[.string t] w fun r w' => r = .returned (.agg #[.int .i64 (byt t 1), .int .i64 (256 * byt t 2 + byt t 3), .int .i64 (256 * byt t 4 + byt t 5), .int .i64 (byt t 6), .bool (badT t)]) ∧ Below w.heap.size w w' := by
  have g0 : ∀ w, (Instr.index 9 (.string t) (.int .i64 0)).run Tryz.prog w = .ok (.int .u8 (byt t 0)) w := fun w => run_byt t 0 (by omega) w
  have b0 := byt_bd t 0
  have g1 : ∀ w, (Instr.index 9 (.string t) (.int .i64 1)).run Tryz.prog w = .ok (.int .u8 (byt t 1)) w := fun w => run_byt t 1 (by omega) w
  have b1 := byt_bd t 1
  have g2 : ∀ w, (Instr.index 9 (.string t) (.int .i64 2)).run Tryz.prog w = .ok (.int .u8 (byt t 2)) w := fun w => run_byt t 2 (by omega) w
  have b2 := byt_bd t 2
  have g3 : ∀ w, (Instr.index 9 (.string t) (.int .i64 3)).run Tryz.prog w = .ok (.int .u8 (byt t 3)) w := fun w => run_byt t 3 (by omega) w
  have b3 := byt_bd t 3
  have g4 : ∀ w, (Instr.index 9 (.string t) (.int .i64 4)).run Tryz.prog w = .ok (.int .u8 (byt t 4)) w := fun w => run_byt t 4 (by omega) w
  have b4 := byt_bd t 4
  have g5 : ∀ w, (Instr.index 9 (.string t) (.int .i64 5)).run Tryz.prog w = .ok (.int .u8 (byt t 5)) w := fun w => run_byt t 5 (by omega) w
  have b5 := byt_bd t 5
  have g6 : ∀ w, (Instr.index 9 (.string t) (.int .i64 6)).run Tryz.prog w = .ok (.int .u8 (byt t 6)) w := fun w => run_byt t 6 (by omega) w
  have b6 := byt_bd t 6
  have g7 : ∀ w, (Instr.index 9 (.string t) (.int .i64 7)).run Tryz.prog w = .ok (.int .u8 (byt t 7)) w := fun w => run_byt t 7 (by omega) w
  have b7 := byt_bd t 7
  go_enter Tryz.func107, Tryz.ntmps107
  go_wp2
  refine wp_region_noPanic ?_
  refine wp_region_held_drew (S := fun _ => True) (by kernel_rfl) trivial (fun hHeld => ?_)
  refine take_at (i := 0) (v := ?tv0) rfl (by kernel_rfl) (by kernel_rfl) (by kernel_rfl) (fun _ _ _ h => h) (by rfl) ?ty0 (by assumption) ?tr0
  case ty0 => (intro w hSw; go_simp; with_reducible rfl)
  simp only [Act.put, List.setIfInBounds_toArray, List.set_cons_zero, List.set_cons_succ]
  refine take_at (i := 1) (v := ?tv1) rfl (by kernel_rfl) (by kernel_rfl) (by kernel_rfl) (fun _ _ _ h => h) (by rfl) ?ty1 (by assumption) ?tr1
  case ty1 => (intro w hSw; go_simp; with_reducible rfl)
  simp only [Act.put, List.setIfInBounds_toArray, List.set_cons_zero, List.set_cons_succ]
  refine take_at (i := 2) (v := ?tv2) rfl (by kernel_rfl) (by kernel_rfl) (by kernel_rfl) (fun _ _ _ h => h) (by rfl) ?ty2 (by assumption) ?tr2
  case ty2 => (intro w hSw; go_simp; with_reducible rfl)
  simp only [Act.put, List.setIfInBounds_toArray, List.set_cons_zero, List.set_cons_succ]
  refine take_at (i := 3) (v := ?tv3) rfl (by kernel_rfl) (by kernel_rfl) (by kernel_rfl) (fun _ _ _ h => h) (by rfl) ?ty3 (by assumption) ?tr3
  case ty3 => (intro w hSw; go_simp; with_reducible rfl)
  simp only [Act.put, List.setIfInBounds_toArray, List.set_cons_zero, List.set_cons_succ]
  refine take_at (i := 4) (v := ?tv4) rfl (by kernel_rfl) (by kernel_rfl) (by kernel_rfl) (fun _ _ _ h => h) (by rfl) ?ty4 (by assumption) ?tr4
  case ty4 => (intro w hSw; go_simp; with_reducible rfl)
  simp only [Act.put, List.setIfInBounds_toArray, List.set_cons_zero, List.set_cons_succ]
  refine take_at (i := 5) (v := ?tv5) rfl (by kernel_rfl) (by kernel_rfl) (by kernel_rfl) (fun _ _ _ h => h) (by rfl) ?ty5 (by assumption) ?tr5
  case ty5 => (intro w hSw; go_simp; with_reducible rfl)
  simp only [Act.put, List.setIfInBounds_toArray, List.set_cons_zero, List.set_cons_succ]
  refine take_at (i := 6) (v := ?tv6) rfl (by kernel_rfl) (by kernel_rfl) (by kernel_rfl) (fun _ _ _ h => h) (by rfl) ?ty6 (by assumption) ?tr6
  case ty6 => (intro w hSw; go_simp; with_reducible rfl)
  simp only [Act.put, List.setIfInBounds_toArray, List.set_cons_zero, List.set_cons_succ]
  refine take_at (i := 7) (v := ?tv7) rfl (by kernel_rfl) (by kernel_rfl) (by kernel_rfl) (fun _ _ _ h => h) (by rfl) ?ty7 (by assumption) ?tr7
  case ty7 => (intro w hSw; go_simp; with_reducible rfl)
  simp only [Act.put, List.setIfInBounds_toArray, List.set_cons_zero, List.set_cons_succ]
  refine take_at (i := 8) (v := ?tv8) rfl (by kernel_rfl) (by kernel_rfl) (by kernel_rfl) (fun _ _ _ h => h) (by rfl) ?ty8 (by assumption) ?tr8
  case ty8 => (intro w hSw; go_simp; with_reducible rfl)
  simp only [Act.put, List.setIfInBounds_toArray, List.set_cons_zero, List.set_cons_succ]
  refine only_at (i := 9) rfl (by kernel_rfl) (by rfl) (fun K hK => ?_)
  go_simp
  refine hK.out _ _ trivial ?_
  clear hK K
  refine wpAnyH_done (by kernel_rfl) ?_ _
  refine NoPanic.normal ?_
  clear hHeld
  go_wp2
  refine wp_region_noPanic ?_
  refine wp_region_held_drew (S := fun _ => True) (by kernel_rfl) trivial (fun hHeld => ?_)
  refine take_at (i := 0) (v := ?uv0) rfl (by kernel_rfl) (by kernel_rfl) (by kernel_rfl) (fun _ _ _ h => h) (by rfl) ?uy0 (by assumption) ?ur0
  case uy0 => (intro w hSw; go_simp; with_reducible rfl)
  simp only [Act.put, List.setIfInBounds_toArray, List.set_cons_zero, List.set_cons_succ]
  refine take_at (i := 1) (v := ?uv1) rfl (by kernel_rfl) (by kernel_rfl) (by kernel_rfl) (fun _ _ _ h => h) (by rfl) ?uy1 (by assumption) ?ur1
  case uy1 => (intro w hSw; go_simp; with_reducible rfl)
  simp only [Act.put, List.setIfInBounds_toArray, List.set_cons_zero, List.set_cons_succ]
  refine take_at (i := 2) (v := ?uv2) rfl (by kernel_rfl) (by kernel_rfl) (by kernel_rfl) (fun _ _ _ h => h) (by rfl) ?uy2 (by assumption) ?ur2
  case uy2 => (intro w hSw; go_simp; with_reducible rfl)
  simp only [Act.put, List.setIfInBounds_toArray, List.set_cons_zero, List.set_cons_succ]
  refine take_at (i := 3) (v := ?uv3) rfl (by kernel_rfl) (by kernel_rfl) (by kernel_rfl) (fun _ _ _ h => h) (by rfl) ?uy3 (by assumption) ?ur3
  case uy3 => (intro w hSw; go_simp; with_reducible rfl)
  simp only [Act.put, List.setIfInBounds_toArray, List.set_cons_zero, List.set_cons_succ]
  refine take_at (i := 4) (v := ?uv4) rfl (by kernel_rfl) (by kernel_rfl) (by kernel_rfl) (fun _ _ _ h => h) (by rfl) ?uy4 (by assumption) ?ur4
  case uy4 => (intro w hSw; go_simp; with_reducible rfl)
  simp only [Act.put, List.setIfInBounds_toArray, List.set_cons_zero, List.set_cons_succ]
  refine take_at (i := 5) (v := ?uv5) rfl (by kernel_rfl) (by kernel_rfl) (by kernel_rfl) (fun _ _ _ h => h) (by rfl) ?uy5 (by assumption) ?ur5
  case uy5 => (intro w hSw; go_simp; with_reducible rfl)
  simp only [Act.put, List.setIfInBounds_toArray, List.set_cons_zero, List.set_cons_succ]
  refine take_at (i := 6) (v := ?uv6) rfl (by kernel_rfl) (by kernel_rfl) (by kernel_rfl) (fun _ _ _ h => h) (by rfl) ?uy6 (by assumption) ?ur6
  case uy6 => (intro w hSw; go_simp; with_reducible rfl)
  simp only [Act.put, List.setIfInBounds_toArray, List.set_cons_zero, List.set_cons_succ]
  refine take_at (i := 7) (v := ?uv7) rfl (by kernel_rfl) (by kernel_rfl) (by kernel_rfl) (fun _ _ _ h => h) (by rfl) ?uy7 (by assumption) ?ur7
  case uy7 => (intro w hSw; go_simp; with_reducible rfl)
  simp only [Act.put, List.setIfInBounds_toArray, List.set_cons_zero, List.set_cons_succ]
  refine take_at (i := 8) (v := ?uv8) rfl (by kernel_rfl) (by kernel_rfl) (by kernel_rfl) (fun _ _ _ h => h) (by rfl) ?uy8 (by assumption) ?ur8
  case uy8 => (intro w hSw; go_simp; with_reducible rfl)
  simp only [Act.put, List.setIfInBounds_toArray, List.set_cons_zero, List.set_cons_succ]
  refine only_at (i := 9) rfl (by kernel_rfl) (by rfl) (fun K hK => ?_)
  go_simp
  refine hK.out _ _ trivial ?_
  clear hK K
  refine wpAnyH_done (by kernel_rfl) ?_ _
  refine NoPanic.normal ?_
  clear hHeld
  go_wp2_with (go_at_call 100; refine (refIsKind_any _ _).mono ?_; rintro e w' ⟨rfl, rfl⟩)
  all_goals
    refine bodyPost_ret (v := .agg #[.int .i64 (byt t 1), .int .i64 (256 * byt t 2 + byt t 3), .int .i64 (256 * byt t 4 + byt t 5), .int .i64 (byt t 6), .bool (badT t)]) (by rw [badT_eq]; simp [results, Tryz.results107, go_sem, *]) rfl ⟨rfl, ?_⟩
    exact ((((Below.refl _ _).alloc (Nat.le_refl _) _).alloc (by simp) _).drew).drew
end Go.Proofs.YtlafkpaljibonaaGreat

namespace Go.Proofs.YtlafkpaljibonaaGreat
open Go.RowKit

theorem refHead_any (t : ByteArray) (w : World) (h : 8 ≤ (t.size : Int)) (hmax : (t.size : Int) ≤ 1000000000000) :
    Calls Tryz.prog 107 #[.string t] w fun r w' => r = .returned (.agg #[.int .i64 (hKind t), .int .i64 (hId t), .int .i64 (hLen t), .int .i64 (hPad t), .bool (badT t)]) ∧ Below w.heap.size w w' := by
  have e1 : 256 * byt t 2 + byt t 3 = hId t := by unfold hId; omega
  have e2 : 256 * byt t 4 + byt t 5 = hLen t := by unfold hLen; omega
  have := refHead_raw t w h hmax
  rw [e1, e2] at this
  exact this

def wrongB (k n : Int) : Bool := if k = 1 then n != 1 else if k = 2 then n != 0 else k != 5

set_option maxRecDepth 100000 in
set_option maxHeartbeats 400000 in
theorem refWrong_any (k i n p : Int) (b : Bool) (w : World) :
    Calls Tryz.prog 108 #[.agg #[.int .i64 k, .int .i64 i, .int .i64 n, .int .i64 p, .bool b]] w fun r w' => r = .returned (.bool (wrongB k n)) ∧ Below w.heap.size w w' := by
  unfold wrongB
  by_cases h1 : k = 1
  · subst h1
    go_enter Tryz.func108, Tryz.ntmps108
    go_wp2
    go_ret
    exact ⟨rfl, (Below.refl _ _).alloc (Nat.le_refl _) _⟩
  · by_cases h2 : k = 2
    · subst h2
      go_enter Tryz.func108, Tryz.ntmps108
      go_wp2
      go_ret
      exact ⟨rfl, (Below.refl _ _).alloc (Nat.le_refl _) _⟩
    · have g1 : (k == 1) = false := by simpa using h1
      have g2 : (k == 2) = false := by simpa using h2
      rw [if_neg h1, if_neg h2]
      clear h1 h2
      go_enter Tryz.func108, Tryz.ntmps108
      go_wp2
      go_ret
      exact ⟨rfl, (Below.refl _ _).alloc (Nat.le_refl _) _⟩

/-- A head that may not come from a client. -/
def wrongT (t : ByteArray) : Bool := wrongB (hKind t) (hLen t)
def stopT (c : Bool) (t : ByteArray) : Bool := badT t || (c && wrongT t)
def rcode (c : Bool) (t : ByteArray) : Nat :=
  if (t.size : Int) < 8 then 0 else if stopT c t then 1 else if (t.size : Int) < 8 + hLen t + hPad t then 0 else 2

theorem rcode_false (t : ByteArray) : rcode false t = code t := by simp [rcode, code, stopT]

def rdec (c : Bool) : Nat → ByteArray → Nat → List Rec × Nat × Bool
  | 0, _, i => ([], i, false)
  | f + 1, s, i =>
    if rcode c (left s i) = 0 then ([], i, false)
    else if rcode c (left s i) = 1 then ([], i, true)
    else (recT (left s i) :: (rdec c f s (i + sizeT (left s i))).1, (rdec c f s (i + sizeT (left s i))).2)

theorem rcode_two {c : Bool} {t : ByteArray} (h : rcode c t = 2) : 8 ≤ sizeT t ∧ sizeT t ≤ t.size ∧ stopT c t = false ∧ 8 + hLen t + hPad t ≤ (t.size : Int) ∧ 8 ≤ (t.size : Int) := by
  have hd := hd_bd t
  unfold rcode at h
  split at h
  · cases h
  · split at h
    · cases h
    · split at h
      · cases h
      · rename_i h1 h2 h3
        refine ⟨by unfold sizeT; omega, by unfold sizeT; omega, by simpa using h2, by omega, by omega⟩

theorem rdec_zero {c : Bool} {f : Nat} {s : ByteArray} {i : Nat} (h : rcode c (left s i) = 0) : rdec c f s i = ([], i, false) := by
  cases f with
  | zero => rfl
  | succ f => simp [rdec, h]
theorem rdec_one {c : Bool} {f : Nat} {s : ByteArray} {i : Nat} (h : rcode c (left s i) = 1) : rdec c (f + 1) s i = ([], i, true) := by
  simp [rdec, h]
theorem rdec_two {c : Bool} {f : Nat} {s : ByteArray} {i : Nat} (h : rcode c (left s i) = 2) : rdec c (f + 1) s i = (recT (left s i) :: (rdec c f s (i + sizeT (left s i))).1, (rdec c f s (i + sizeT (left s i))).2) := by
  simp [rdec, h]

def rdL (c : Bool) (s : ByteArray) : List Rec := (rdec c (s.size + 1) s 0).1
def rdN (c : Bool) (s : ByteArray) : Nat := (rdec c (s.size + 1) s 0).2.1
def rdB (c : Bool) (s : ByteArray) : Bool := (rdec c (s.size + 1) s 0).2.2

theorem rdec_false (f : Nat) (s : ByteArray) : ∀ i, (rdec false f s i).1 = (dec f s i).1 ∧ (rdec false f s i).2.1 = (dec f s i).2.1 ∧ (if (rdec false f s i).2.2 then (7 : Int) else 0) = (dec f s i).2.2 := by
  induction f with
  | zero => intro i; simp [rdec, dec]
  | succ f ih =>
    intro i
    simp only [rdec, dec, rcode_false]
    split
    · simp
    · split
      · simp
      · have := ih (i + sizeT (left s i))
        exact ⟨by rw [this.1], this.2.1, this.2.2⟩

theorem wrap_ok {n : Int} (h0 : -9223372036854775808 ≤ n) (h1 : n ≤ 9223372036854775807) : IntKind.i64.wrap n = n := by rw [IntKind.wrap_i64]; omega

theorem slice_rec (s : ByteArray) (k : Nat) (h : (k : Int) + 8 + hLen (left s k) + hPad (left s k) ≤ (s.size : Int)) :
    s.extract ((k : Int) + 8).toNat ((k : Int) + 8 + hLen (left s k)).toNat = (recT (left s k)).2.2 := by
  have hd := hd_bd (left s k)
  unfold recT
  show _ = (left s k).extract 8 (8 + hLen (left s k)).toNat
  generalize hLen (left s k) = ln at *
  unfold left
  rw [ByteArray.extract_extract]
  have e1 : ((k : Int) + 8).toNat = k + 8 := by omega
  have e2 : ((k : Int) + 8 + ln).toNat = min (k + (8 + ln).toNat) s.size := by omega
  rw [e1, e2]

set_option maxRecDepth 100000 in
set_option maxHeartbeats 2000000 in
theorem refRead_any (s : ByteArray) (c : Bool) (w : World) (hmax : (s.size : Int) ≤ 1000000000000) :
    Calls Tryz.prog 83 #[.string s, .bool c] w fun r w' => ∃ v, r = .returned (.tuple #[v, .int .i64 (rdN c s), .bool (rdB c s)]) ∧ w'.ownsRow w.heap.size 102 3 v (rdL c s).length (rowOf (rdL c s)) ∧ Below w.heap.size w w' := by
  obtain ⟨i0, hi, hz0, hz1, hz2⟩ := info_parts info23
  go_enter Tryz.func83, Tryz.ntmps83
  go_wp2
  go_loopw [7, 8] (fun v i w' => ∃ (acc : List Rec) (k f : Nat), i = .int .i64 k ∧ k ≤ s.size ∧ acc.length * 8 ≤ k ∧ s.size - k < f ∧ rdL c s = acc ++ (rdec c f s k).1 ∧ (rdN c s, rdB c s) = (rdec c f s k).2 ∧ w'.ownsRow w.heap.size 102 3 v acc.length (rowOf acc) ∧ Below w.heap.size w w') (fun _ i _ => s.size - (intOf i).toNat)
  case atStart => exact ⟨[], 0, s.size + 1, rfl, Nat.zero_le _, by simp, by omega, rfl, rfl, World.ownsRow_nil _ _ _ _, Below.refl _ _⟩
  case round =>
    obtain ⟨acc, k, f, rfl, hk, hlen, hf, hL, hN, hown, hbel⟩ := hrel
    have HL : Hid _ := hL
    have HN : Hid _ := hN
    clear hL hN
    have hbase := hbel.size
    by_cases hlt : 8 ≤ s.size - k
    · have hls := left_size s k
      have hd := hd_bd (left s k)
      have hge : (8 : Int) ≤ (s.size : Int) - (k : Int) := by omega
      obtain ⟨f', rfl⟩ : ∃ f', f = f' + 1 := ⟨f - 1, by omega⟩
      go_wp2_with fail
      refine (refHead_any (s.extract k s.size) _ (by rw [ByteArray.size_extract]; omega) (by rw [ByteArray.size_extract]; omega)).mono ?_
      rw [show s.extract k s.size = left s k from rfl]
      rintro e w1 ⟨rfl, hb⟩
      have hg : wr.grownBy w1 none := ⟨hb.os, hb.tape, hb.output, hb.size, fun b hb' _ => hb.block b hb'⟩
      have hown1 := hown.kept hg (by cases hv : u7.ownBlock <;> simp)
      have hsz1 := hb.size
      have hbel1 : Below w.heap.size w w1 := hbel.trans (hb.mono hbase)
      clear hg hown hbel hb
      go_wp2_with fail
      refine (refWrong_any _ _ _ _ _ _).mono ?_
      rintro e w2 ⟨rfl, hb2⟩
      obtain ⟨e0, -⟩ := keep_new hb2 0
      obtain ⟨e1, -⟩ := keep_new hb2 1
      obtain ⟨e2, -⟩ := keep_new hb2 2
      obtain ⟨e3, -⟩ := keep_new hb2 3
      obtain ⟨e4, -⟩ := keep_new hb2 4
      simp only [List.getElem?_toArray, List.getElem?_cons_zero, List.getElem?_cons_succ] at e0 e1 e2 e3 e4
      have hg2 : (w1.alloc (.cells #[.int .i64 (hKind (left s k)), .int .i64 (hId (left s k)), .int .i64 (hLen (left s k)), .int .i64 (hPad (left s k)), .bool (badT (left s k))] 125)).grownBy w2 none := ⟨hb2.os, hb2.tape, hb2.output, hb2.size, fun b hb' _ => hb2.block b hb'⟩
      have hown2 := (hown1.alloc _).kept hg2 (by cases hv : u7.ownBlock <;> simp)
      have hsz2 : w1.heap.size < w2.heap.size := by have := hb2.size; simp at this; omega
      have hbel2 : Below w.heap.size w w2 := (hbel1.alloc (by omega) _).trans (hb2.mono (by simp; omega))
      have h7 : ∀ b, u7.ownBlock = some b → w.heap.size ≤ b ∧ b < w1.heap.size := hown1.lt
      have h7' : some w1.heap.size ≠ u7.ownBlock := fun e => by have := h7 _ e.symm; omega
      clear hg2 hown1 hbel1 hb2
      by_cases hstop : stopT c (left s k) = true
      · have hd1 := rdec_one (f := f') (show rcode c (left s k) = 1 from by unfold rcode; rw [if_neg (by rw [hls]; omega), if_pos hstop])
        have hL := HL.out
        have hN := HN.out
        rw [hd1] at hL hN
        simp only [List.append_nil, Prod.mk.injEq] at hL hN
        have HL2 : Hid _ := hL
        have HN2 : Hid _ := hN
        clear hL hN hd1 HL HN hls
        unfold stopT wrongT at hstop
        have hcase : badT (left s k) = true ∨ (badT (left s k) = false ∧ c = true ∧ wrongB (hKind (left s k)) (hLen (left s k)) = true) := by
          cases hbt : badT (left s k) <;> cases c <;> simp_all
        clear hstop
        rcases hcase with hbt | ⟨hbt, rfl, hwt⟩
        · rw [hbt] at e4
          go_wp2
          go_ret3
          refine ⟨u7, by rw [HN2.out.1, HN2.out.2]; rfl, ?_, hbel2⟩
          rw [HL2.out]; exact hown2
        · rw [hbt] at e4
          rw [hwt]
          go_wp2
          go_ret3
          refine ⟨u7, by rw [HN2.out.1, HN2.out.2]; rfl, ?_, hbel2⟩
          rw [HL2.out]; exact hown2
      · have hstop' : stopT c (left s k) = false := by simpa using hstop
        clear hstop
        have hcase : badT (left s k) = false ∧ (c = false ∨ wrongB (hKind (left s k)) (hLen (left s k)) = false) := by
          unfold stopT wrongT at hstop'
          cases hbt : badT (left s k) <;> cases c <;> simp_all
        obtain ⟨hbt, hcw⟩ := hcase
        rw [hbt] at e4
        clear hbt
        by_cases hend : s.size - k < 8 + hLen (left s k) + hPad (left s k)
        · have hd1 := rdec_zero (f := f' + 1) (show rcode c (left s k) = 0 from by unfold rcode; rw [if_neg (by rw [hls]; omega), hstop', if_neg (by simp), if_pos (by rw [hls]; omega)])
          have hL := HL.out
          have hN := HN.out
          rw [hd1] at hL hN
          simp only [List.append_nil, Prod.mk.injEq] at hL hN
          have HL2 : Hid _ := hL
          have HN2 : Hid _ := hN
          clear hL hN hd1 HL HN hls hstop'
          have hend' : (s.size : Int) < (k : Int) + 8 + hLen (left s k) + hPad (left s k) := by omega
          rcases hcw with rfl | hcw
          · go_wp2
            go_ret3
            refine ⟨u7, by rw [HN2.out.1, HN2.out.2]; rfl, ?_, hbel2⟩
            rw [HL2.out]; exact hown2
          · rw [hcw]
            cases c
            all_goals
              go_wp2
              go_ret3
              refine ⟨u7, by rw [HN2.out.1, HN2.out.2]; rfl, ?_, hbel2⟩
              rw [HL2.out]; exact hown2
        · have hd1 := rdec_two (f := f') (show rcode c (left s k) = 2 from by unfold rcode; rw [if_neg (by rw [hls]; omega), hstop', if_neg (by simp), if_neg (by rw [hls]; omega)])
          have hL := HL.out
          have hN := HN.out
          rw [hd1] at hL hN
          have HL2 : Hid _ := hL
          have HN2 : Hid _ := hN
          clear hL hN hd1 HL HN hls hstop'
          have hend' : (k : Int) + 8 + hLen (left s k) + hPad (left s k) ≤ (s.size : Int) := by omega
          have hs : ∀ wx : World, (Instr.slice 9 (.string s) (some (.int .i64 ((k : Int) + 8))) (some (.int .i64 ((k : Int) + 8 + hLen (left s k)))) none).run Tryz.prog wx = .ok (.string (recT (left s k)).2.2) wx := by
            intro wx
            rw [run_slice_string (P := Tryz.prog) wx 9 s .i64 .i64 ((k : Int) + 8) ((k : Int) + 8 + hLen (left s k)) Tryz.underlying9 (by omega) (by omega) (by omega), slice_rec s k hend']
          have hcell : w2.cell? ⟨w1.heap.size, 0, none⟩ = some (.int .i64 (recT (left s k)).1) ∧ w2.cell? ⟨w1.heap.size, 1, none⟩ = some (.int .i64 (recT (left s k)).2.1) := ⟨e0, e1⟩
          obtain ⟨q0, q1⟩ := hcell
          clear e0 e1
          have hzk : ((sizeT (left s k) : Nat) : Int) = 8 + hLen (left s k) + hPad (left s k) := by unfold sizeT; omega
          have HZ : Hid _ := hzk
          clear hzk
          generalize hr : recT (left s k) = r at hs q0 q1
          have HR : Hid _ := hr
          clear hr
          generalize hln : hLen (left s k) = ln at *
          generalize hpd : hPad (left s k) = pd at *
          clear hln hpd
          have hc2 : c = false ∨ (c = true ∧ wrongB (hKind (left s k)) ln = false) := by
            cases c
            · exact .inl rfl
            · exact .inr ⟨rfl, by simpa using hcw⟩
          clear hcw
          generalize wrongB (hKind (left s k)) ln = wb at *
          have hw1 : IntKind.i64.wrap ((k : Int) + 8) = (k : Int) + 8 := wrap_ok (by omega) (by omega)
          have hw2 : IntKind.i64.wrap ((k : Int) + 8 + ln) = (k : Int) + 8 + ln := wrap_ok (by omega) (by omega)
          rcases hc2 with rfl | ⟨rfl, rfl⟩
          all_goals
            go_wp2
            refine wp_region_noPanic ?_
            refine wp_region_held_drew (S := fun w' => w'.cell? ⟨w1.heap.size, 0, none⟩ = some (.int .i64 r.1) ∧ w'.cell? ⟨w1.heap.size, 1, none⟩ = some (.int .i64 r.2.1) ∧ w'.cell? ⟨w1.heap.size, 2, none⟩ = some (.int .i64 ln)) (by kernel_rfl) (by simp [q0, q1, e2]) (fun hHeld => ?_)
            refine take_at (i := 0) (v := ?_) rfl (by kernel_rfl) (by kernel_rfl) (by kernel_rfl) (fun _ _ _ h => h) (by rfl) ?_ (by assumption) ?_
            rotate_left
            · (intro w hSw; go_simp; with_reducible rfl)
            simp only [Act.put, List.setIfInBounds_toArray, List.set_cons_zero, List.set_cons_succ]
            refine take_at (i := 1) (v := ?_) rfl (by kernel_rfl) (by kernel_rfl) (by kernel_rfl) (fun _ _ _ h => h) (by rfl) ?_ (by assumption) ?_
            rotate_left
            · (intro w hSw; go_simp; with_reducible rfl)
            simp only [Act.put, List.setIfInBounds_toArray, List.set_cons_zero, List.set_cons_succ]
            refine take_at (i := 2) (v := ?_) rfl (by kernel_rfl) (by kernel_rfl) (by kernel_rfl) (fun _ _ _ h => h) (by rfl) ?_ (by assumption) ?_
            rotate_left
            · (intro w hSw; go_simp; with_reducible rfl)
            simp only [Act.put, List.setIfInBounds_toArray, List.set_cons_zero, List.set_cons_succ]
            refine take_at (i := 3) (v := ?_) rfl (by kernel_rfl) (by kernel_rfl) (by kernel_rfl) (fun _ _ _ h => h) (by rfl) ?_ (by assumption) ?_
            rotate_left
            · (intro w hSw; go_simp; with_reducible rfl)
            simp only [Act.put, List.setIfInBounds_toArray, List.set_cons_zero, List.set_cons_succ]
            refine take_at (i := 4) (v := ?_) rfl (by kernel_rfl) (by kernel_rfl) (by kernel_rfl) (fun _ _ _ h => h) (by rfl) ?_ (by assumption) ?_
            rotate_left
            · (intro w hSw; go_simp; with_reducible rfl)
            simp only [Act.put, List.setIfInBounds_toArray, List.set_cons_zero, List.set_cons_succ]
            refine take_at (i := 5) (v := ?_) rfl (by kernel_rfl) (by kernel_rfl) (by kernel_rfl) (fun _ _ _ h => h) (by rfl) ?_ (by assumption) ?_
            rotate_left
            · (intro w hSw; go_simp; with_reducible rfl)
            simp only [Act.put, List.setIfInBounds_toArray, List.set_cons_zero, List.set_cons_succ]
            refine take_at (i := 6) (v := ?_) rfl (by kernel_rfl) (by kernel_rfl) (by kernel_rfl) (fun _ _ _ h => h) (by rfl) ?_ (by assumption) ?_
            rotate_left
            · (intro w hSw; go_simp; with_reducible rfl)
            simp only [Act.put, List.setIfInBounds_toArray, List.set_cons_zero, List.set_cons_succ]
            refine take_at (i := 7) (v := ?_) rfl (by kernel_rfl) (by kernel_rfl) (by kernel_rfl) (fun _ _ _ h => h) (by rfl) ?_ (by assumption) ?_
            rotate_left
            · (intro w hSw; go_simp; with_reducible rfl)
            simp only [Act.put, List.setIfInBounds_toArray, List.set_cons_zero, List.set_cons_succ]
            refine take_at (i := 8) (v := ?_) rfl (by kernel_rfl) (by kernel_rfl) (by kernel_rfl) (fun _ _ _ h => h) (by rfl) ?_ (by assumption) ?_
            rotate_left
            · (intro w hSw; go_simp; with_reducible rfl)
            simp only [Act.put, List.setIfInBounds_toArray, List.set_cons_zero, List.set_cons_succ]
            refine take_at (i := 9) (v := ?_) rfl (by kernel_rfl) (by kernel_rfl) (by kernel_rfl) (fun _ _ _ h => h) (by rfl) ?_ (by assumption) ?_
            rotate_left
            · (intro w hSw; go_simp; with_reducible rfl)
            simp only [Act.put, List.setIfInBounds_toArray, List.set_cons_zero, List.set_cons_succ]
            refine take_at (i := 10) (v := ?_) rfl (by kernel_rfl) (by kernel_rfl) (by kernel_rfl) (fun _ _ _ h => h) (by rfl) ?_ (by assumption) ?_
            rotate_left
            · (intro w hSw; go_simp; with_reducible rfl)
            simp only [Act.put, List.setIfInBounds_toArray, List.set_cons_zero, List.set_cons_succ]
            refine take_at (i := 11) (v := ?_) rfl (by kernel_rfl) (by kernel_rfl) (by kernel_rfl) (fun _ _ _ h => h) (by rfl) ?_ (by assumption) ?_
            rotate_left
            · (intro w hSw; go_simp; with_reducible rfl)
            simp only [Act.put, List.setIfInBounds_toArray, List.set_cons_zero, List.set_cons_succ]
            refine take_at (i := 12) (v := ?_) rfl (by kernel_rfl) (by kernel_rfl) (by kernel_rfl) (fun _ _ _ h => h) (by rfl) ?_ (by assumption) ?_
            rotate_left
            · (intro w hSw; go_simp; with_reducible rfl)
            simp only [Act.put, List.setIfInBounds_toArray, List.set_cons_zero, List.set_cons_succ]
            refine take_at (i := 13) (v := ?_) rfl (by kernel_rfl) (by kernel_rfl) (by kernel_rfl) (fun _ _ _ h => h) (by rfl) ?_ (by assumption) ?_
            rotate_left
            · (intro w hSw; go_simp; with_reducible rfl)
            simp only [Act.put, List.setIfInBounds_toArray, List.set_cons_zero, List.set_cons_succ]
            refine take_at (i := 14) (v := ?_) rfl (by kernel_rfl) (by kernel_rfl) (by kernel_rfl) (fun _ _ _ h => h) (by rfl) ?_ (by assumption) ?_
            rotate_left
            · (intro w hSw; go_simp; with_reducible rfl)
            simp only [Act.put, List.setIfInBounds_toArray, List.set_cons_zero, List.set_cons_succ]
            refine only_at (i := 15) rfl (by kernel_rfl) (by rfl) (fun K hK => ?_)
            go_simp
            refine hK.out _ _ (by simp [q0, q1, e2, World.cell?_alloc_some]) ?_
            clear hK K hHeld
            refine only_at (i := 16) rfl (by kernel_rfl) (by rfl) (fun K hK => ?_)
            refine wp_append_own _ _ _ 66 rfl w.heap.size 102 i0 (.agg #[.int .i64 0, .int .i64 0, .string ⟨#[]⟩]) 3 32 Tryz.underlying66 hi hz0 hz1 hz2 rfl (by omega) u7 acc.length (rowOf acc) rfl (hown2.alloc _) ⟨w2.heap.size, 0, none⟩ 1 1 (rcells r) rfl rfl ?_ (one_rec r) (by unfold maxLen; omega) (by omega) (by simp; omega) ?_
            · exact news_rec w2 _ rfl r _
            intro v' w3 hown3 hgrow _
            have hq : ∀ (o : Nat) (x : Value), w2.cell? ⟨w1.heap.size, o, none⟩ = some x → w3.cell? ⟨w1.heap.size, o, none⟩ = some x := fun o x hx =>
              hgrow.cell (by simp [hx, World.cell?_alloc_some]) h7'
            refine hK.out _ _ ⟨hq _ _ q0, hq _ _ q1, hq _ _ e2⟩ ?_
            clear hK K
            simp only [Act.put, List.setIfInBounds_toArray, List.set_cons_zero, List.set_cons_succ]
            refine only_at (i := 17) rfl (by kernel_rfl) (by rfl) (fun K hK => ?_)
            go_simp
            refine hK.out _ _ ⟨hq _ _ q0, hq _ _ q1, hq _ _ e2⟩ ?_
            clear hK K hq
            refine wpAnyH_done (by kernel_rfl) ?_ _
            refine NoPanic.normal ?_
            clear e2 e3 e4 q0 q1 hs hw1 hw2
            go_wp2
            have hsz3 : w2.heap.size < w3.heap.size := by have := hgrow.size; simp at this; omega
            have hL := HL2.out
            have hN := HN2.out
            have hZ := HZ.out
            rw [HR.out] at hL
            refine ⟨⟨acc ++ [r], k + sizeT (left s k), f', by rw [show (k : Int) + 8 + ln + pd = ((k + sizeT (left s k) : Nat) : Int) from by omega], by omega, by simp; omega, by omega, by simpa using hL, hN, ?_, ?_⟩, by simp [intOf]; omega⟩
            · rw [rowOf_append, rowOf_one]; simpa using hown3
            · refine (hbel2.alloc (by omega) _).drew.grown hgrow (by simp; omega) ?_
              intro b hbk
              exact (h7 b hbk).1
    · go_wp2
      go_ret3
      have hd := rdec_zero (f := f) (show rcode c (left s k) = 0 from by unfold rcode; rw [if_pos]; rw [left_size]; omega)
      have hL := HL.out
      have hN := HN.out
      rw [hd] at hL hN
      simp only [List.append_nil, Prod.mk.injEq] at hL hN
      refine ⟨u7, by rw [hN.1, hN.2]; rfl, ?_, hbel⟩
      rw [hL]; exact hown


end Go.Proofs.YtlafkpaljibonaaGreat

namespace Go.Proofs.YtlafkpaljibonaaGreat
open Go.RowKit

structure RM.good (m : RM) (K Q S : Nat) : Prop where
  wf : m.wf
  fit : m.fit
  keys : m.keys.length ≤ K
  queue : m.queue.length ≤ Q
  sent : ∀ n, (m.line n).sent.length ≤ S

theorem RM.good.mono {m : RM} {K Q S K' Q' S' : Nat} (h : m.good K Q S) (h1 : K ≤ K') (h2 : Q ≤ Q') (h3 : S ≤ S') : m.good K' Q' S' :=
  ⟨h.wf, h.fit, Nat.le_trans h.keys h1, Nat.le_trans h.queue h2, fun n => Nat.le_trans (h.sent n) h3⟩

theorem RM.good.took {m : RM} {K Q S : Nat} (h : m.good K Q S) (k n : Nat) : (m.tookAt k n).good K Q S :=
  ⟨⟨h.wf.q, h.wf.s, h.wf.ch⟩, h.fit, h.keys, h.queue, fun j => by
    have := h.sent j
    simp only [RM.tookAt, upd]
    split
    · rename_i e; rw [← e]; exact this
    · exact this⟩

theorem RM.good.came {m : RM} {K Q S : Nat} (h : m.good K Q S) (k : Nat) (s : ByteArray) : (m.cameAt k s).good K Q S :=
  ⟨⟨h.wf.q, h.wf.s, h.wf.ch⟩, h.fit, h.keys, h.queue, fun j => by
    have := h.sent j
    simp only [RM.cameAt, upd]
    split
    · rename_i e; rw [← e]; exact this
    · exact this⟩

theorem RM.good.take {m : RM} {K Q S : Nat} (h : m.good K Q S) (n : Nat) (kd i : Int) (c : ByteArray) (a : Int) (ha : a < 0 ∨ a.toNat < m.keys.length) : (m.take n kd i c a).good (K + 1) (Q + 1) (S + 1) := by
  have st := RM.step_take h.wf n kd i c a ha
  exact ⟨st.wf, RM.fit_take h.fit n kd i c a, by have := st.keys; have := h.keys; omega, by have := st.queue; have := h.queue; omega, fun j => by have := st.sent j; have := h.sent j; omega⟩

theorem RM.good.settle {m : RM} {K Q S : Nat} (h : m.good K Q S) : m.settle.good K Q S := by
  obtain ⟨h1, h2, h3, h4, h5⟩ := RM.startN_same 6 m
  obtain ⟨k1, k2, k3, k4, k5, k6⟩ := RM.leaseN_same 6 m.startAll
  have e2 : m.startAll.keys = m.keys := h2
  refine ⟨RM.wf_settle h.wf, k6 ?_, ?_, ?_, ?_⟩
  · intro i
    have e : m.startAll.key i = m.key i := by
      show m.startAll.keys.getD i noKey = m.keys.getD i noKey
      rw [e2]
    rw [e]
    exact h.fit i
  · rw [show m.settle.keys.length = m.startAll.keys.length from k2, e2]; exact h.keys
  · rw [show m.settle.queue = m.startAll.queue from k3, show m.startAll.queue = m.queue from h3]; exact h.queue
  · intro n
    rw [show m.settle.line = m.startAll.line from k4, show m.startAll.line = m.line from h4]
    exact h.sent n

theorem RM.find_took (m : RM) (k n : Nat) (c i : Int) : (m.tookAt k n).find c i = m.find c i := rfl

theorem plcI_lt {m : RM} {c i : Int} : plcI (m.find c i) < 0 ∨ (plcI (m.find c i)).toNat < m.keys.length := by
  cases h : m.find c i with
  | none => left; simp [plcI]
  | some a => right; obtain ⟨hk, -⟩ := RM.find_some h; simpa [plcI] using hk

theorem RM.good.one {m : RM} {K Q S : Nat} (h : m.good K Q S) (k i : Nat) (r : Rec) : (m.one k i r).good (K + 1) (Q + 1) (S + 1) :=
  (((h.took k (i + 1)).take k r.1 r.2.1 r.2.2 _ (plcI_lt (m := m))).settle)

/-- Feed, plainly. -/
def RM.feed (m : RM) (k : Nat) (s : ByteArray) : RM :=
  cond (!(RM.feedL k ((rdL true ((m.line k).come ++ s)).drop (m.line k).took) (m.cameAt k ((m.line k).come ++ s)) (m.line k).took).2 && rdB true ((m.line k).come ++ s))
    ((RM.feedL k ((rdL true ((m.line k).come ++ s)).drop (m.line k).took) (m.cameAt k ((m.line k).come ++ s)) (m.line k).took).1.close k)
    (RM.feedL k ((rdL true ((m.line k).come ++ s)).drop (m.line k).took) (m.cameAt k ((m.line k).come ++ s)) (m.line k).took).1

end Go.Proofs.YtlafkpaljibonaaGreat

namespace Go.Proofs.YtlafkpaljibonaaGreat
open Go.RowKit

section
variable {o o' : Nat → Tag} {q : Nat} {w w' : World} {b : Nat} {m : PM} {sv : Nat → Value} {rv : Value}

theorem Fr.setNew (h : Fr q o w o' w') {g : Nat} (hg : w.heap.size ≤ g) (j : Nat) (u : Value) : Fr q o w o' (w'.setCell ⟨g, j, none⟩ u) :=
  ⟨h.os, h.tape, h.output, by simpa [World.setCell] using h.size, h.clean.le (by simp [World.setCell]), h.tags, fun x hx hq => (Below.heap_setCell _ _ _ x (by simp; omega)).trans (h.block x hx hq)⟩

theorem FMem.setFar (h : FMem o q w b m sv rv) {g : Nat} (hg : (o g).1 ≠ q) (j : Nat) (u : Value) : FMem o q (w.setCell ⟨g, j, none⟩ u) b m sv rv := by
  have hs : (w.setCell ⟨g, j, none⟩ u).heap.size = w.heap.size := by simp [World.setCell]
  have hne : ∀ x, (o x).1 = q → (w.setCell ⟨g, j, none⟩ u).heap[x]? = w.heap[x]? := fun x hx => Below.heap_setCell _ _ _ x (by rintro rfl; exact hg hx)
  exact ⟨h.clean.le (Nat.le_of_eq hs.symm), h.tag, h.blk.keep (hne b (by rw [h.tag])), fun k hk => (h.sent k hk).keep (fun _ _ => rfl) fun x _ hx => hne x (by rw [hx]), h.reqs.keep (fun _ _ => rfl) fun x _ hx => hne x (by rw [hx]), h.few⟩

def PM.killAt (m : PM) : Option Nat → PM
  | some k => m.kill k
  | none => m
def PM.abort (m : PM) (k : Nat) (i : Int) : PM :=
  match m.find k i with
  | some _ => (m.killAt (m.slotOf k i)).endKey k i 5
  | none => m

theorem killAt_same (m : PM) (x : Option Nat) : (m.killAt x).con = m.con ∧ (m.killAt x).req = m.req := by
  cases x <;> exact ⟨rfl, rfl⟩

set_option maxRecDepth 100000 in
set_option maxHeartbeats 2000000 in
theorem abort_any (h : FMem o q w b m sv rv) (hq : q ≠ 0) (k : Nat) (hk : k < 4) (i : Int) (hs : (m.con k).sent.length ≤ 1000000000000) (hmax : m.req.length ≤ 100000000000) :
    Calls Tryz.prog 121 #[.pointer (some ⟨b, 0, none⟩), .agg #[.int .i64 k, .int .i64 i]] w fun r w' => r = .returned (.tuple #[]) ∧ ∃ o' sv' rv', FMem o' q w' b (m.abort k i) sv' rv' ∧ Fr q o w o' w' := by
  have kf : Hid (∀ w', FMem o q w' b m sv rv → Calls Tryz.prog 118 #[.pointer (some ⟨b, 0, none⟩), .agg #[.int .i64 k, .int .i64 i]] w' fun r w'' => r = .returned (fwV (m.find k i)) ∧ Below w'.heap.size w' w'') := fun w' h' => find_any h' k i
  have ks : Hid (∀ w', FMem o q w' b m sv rv → Calls Tryz.prog 114 #[.pointer (some ⟨b, 0, none⟩), .agg #[.int .i64 k, .int .i64 i]] w' fun r w'' => r = .returned (fwV (m.slotOf k i)) ∧ Below w'.heap.size w' w'') := fun w' h' => slotOf_any h' k i
  have x0 := Blk.made w 89 [.int .i64 k, .int .i64 i]
  have hb0 : Below w.heap.size w (w.alloc (.cells #[.int .i64 k, .int .i64 i] 89)) := (Below.refl _ _).alloc (Nat.le_refl _) _
  have hA := h.below hb0
  have frA := Fr.of_below (q := q) h.clean hb0
  have hkey : o w.heap.size = (0, 0) := h.clean _ (Nat.le_refl _)
  unfold PM.abort
  cases hf : m.find k i with
  | none =>
    rw [hf] at kf
    unfold fwV at kf
    go_enter Tryz.func121, Tryz.ntmps121
    go_wp2_with fail
    refine (kf.out _ hA).mono ?_
    rintro e w1 ⟨rfl, hb1⟩
    go_wp2
    exact bodyPost_ret (v := .tuple #[]) (by simp [results, Tryz.results121, go_sem]) rfl ⟨rfl, o, sv, rv, hA.below hb1, frA.below hb1⟩
  | some a =>
    rw [hf] at kf
    unfold fwV at kf
    simp only
    have hks := killAt_same m (m.slotOf k i)
    have hk0 := m.slotFrom_lt k i 0 6
    change ∀ a, m.slotOf k i = some a → a < 0 + 6 at hk0
    cases hsl : m.slotOf k i with
    | none =>
      rw [hsl] at ks
      unfold fwV at ks
      simp only [PM.killAt]
      go_enter Tryz.func121, Tryz.ntmps121
      go_wp2_with fail
      refine (kf.out _ hA).mono ?_
      rintro e w1 ⟨rfl, hb1⟩
      have hm1 := hA.below hb1
      have x1 := x0.below hb1
      have y0 := x1.cell (k := 0) (u := .int .i64 k) rfl
      have y1 := x1.cell (k := 1) (u := .int .i64 i) rfl
      go_wp2_with fail
      refine (ks.out _ hm1).mono ?_
      rintro e w2 ⟨rfl, hb2⟩
      have hm2 := hm1.below hb2
      have x2 := x1.below hb2
      clear y0 y1
      have y0 := x2.cell (k := 0) (u := .int .i64 k) rfl
      have y1 := x2.cell (k := 1) (u := .int .i64 i) rfl
      go_wp2_with fail
      refine (end_any hm2 hq k hk i 5 (by omega) (by omega) hs (by omega)).mono ?_
      rintro e w3 ⟨rfl, o3, sv3, rv3, hm3, fr3⟩
      go_wp2
      exact bodyPost_end (v := .tuple #[]) (by simp [results, Tryz.results121, go_sem]) rfl ⟨rfl, o3, sv3, rv3, hm3, ((frA.below hb1).below hb2).trans fr3⟩
    | some c =>
      have hc : c < 6 := by have := hk0 c hsl; omega
      rw [hsl] at ks
      unfold fwV at ks
      simp only [PM.killAt]
      go_enter Tryz.func121, Tryz.ntmps121
      go_wp2_with fail
      refine (kf.out _ hA).mono ?_
      rintro e w1 ⟨rfl, hb1⟩
      have hm1 := hA.below hb1
      have x1 := x0.below hb1
      have y0 := x1.cell (k := 0) (u := .int .i64 k) rfl
      have y1 := x1.cell (k := 1) (u := .int .i64 i) rfl
      go_wp2_with fail
      refine (ks.out _ hm1).mono ?_
      rintro e w2 ⟨rfl, hb2⟩
      have hm2 := hm1.below hb2
      have x2 := x1.below hb2
      clear y0 y1
      go_wp2_with fail
      refine (kill_any hm2 c hc).mono ?_
      rintro e w3 ⟨rfl, hm3, fr3⟩
      have x3 : Blk w3 w.heap.size 89 [.int .i64 k, .int .i64 i] := x2.keep (fr3.block _ x2.lt (by rw [hkey]; exact fun e => hq e.symm))
      have y0 := x3.cell (k := 0) (u := .int .i64 k) rfl
      have y1 := x3.cell (k := 1) (u := .int .i64 i) rfl
      go_wp2_with fail
      refine (end_any hm3 hq k hk i 5 (by omega) (by omega) hs (by show m.req.length ≤ _; omega)).mono ?_
      rintro e w4 ⟨rfl, o4, sv4, rv4, hm4, fr4⟩
      go_wp2
      exact bodyPost_end (v := .tuple #[]) (by simp [results, Tryz.results121, go_sem]) rfl ⟨rfl, o4, sv4, rv4, hm4, (((frA.below hb1).below hb2).trans fr3).trans fr4⟩

def PM.enqueue (m : PM) (k : Nat) (i : Int) (body : ByteArray) : PM :=
  cond m.room { m with req := withoutL m.req k i ++ [⟨k, i, 1, body⟩] } (m.endKey k i 2)

set_option maxRecDepth 100000 in
set_option maxHeartbeats 4000000 in
theorem enqueue_any (h : FMem o q w b m sv rv) (hq : q ≠ 0) (k : Nat) (hk : k < 4) (i st : Int) (body : ByteArray) (hs : (m.con k).sent.length ≤ 1000000000000) (hmax : m.req.length ≤ 100000000000) :
    Calls Tryz.prog 125 #[.pointer (some ⟨b, 0, none⟩), .agg #[.int .i64 k, .int .i64 i, .int .i64 st, .string body]] w fun r w' => r = .returned (.tuple #[]) ∧ ∃ o' sv' rv', FMem o' q w' b (m.enqueue k i body) sv' rv' ∧ Fr q o w o' w' := by
  obtain ⟨i0, hi, hz0, hz1, hz2⟩ := info_parts infoReq
  unfold PM.enqueue
  have kr : Hid (∀ w', FMem o q w' b m sv rv → Calls Tryz.prog 127 #[.pointer (some ⟨b, 0, none⟩)] w' fun r w'' => r = .returned (.bool m.room) ∧ Below w'.heap.size w' w'') := fun w' h' => hasRoom_any h' (by omega)
  have x0 := Blk.made w 106 [.int .i64 k, .int .i64 i, .int .i64 st, .string body]
  have hb0 : Below w.heap.size w (w.alloc (.cells #[.int .i64 k, .int .i64 i, .int .i64 st, .string body] 106)) := (Below.refl _ _).alloc (Nat.le_refl _) _
  have hA := h.below hb0
  have frA := Fr.of_below (q := q) h.clean hb0
  have hkey : o w.heap.size = (0, 0) := h.clean _ (Nat.le_refl _)
  have hbn : b ≠ w.heap.size := by have := h.blk.lt; omega
  have hnb : w.heap.size ≠ b := fun e => hbn e.symm
  cases hroom : m.room
  · rw [hroom] at kr
    simp only [cond_false]
    go_enter Tryz.func125, Tryz.ntmps125
    go_wp2_with fail
    refine (kr.out _ hA).mono ?_
    rintro e w1 ⟨rfl, hb1⟩
    have x1 := x0.below hb1
    have y0 := x1.cell (k := 0) (u := .int .i64 k) rfl
    have y1 := x1.cell (k := 1) (u := .int .i64 i) rfl
    go_wp2_with fail
    refine (end_any (hA.below hb1) hq k hk i 2 (by omega) (by omega) hs (by omega)).mono ?_
    rintro e w2 ⟨rfl, o2, sv2, rv2, hm2, fr2⟩
    go_wp2
    exact bodyPost_ret (v := .tuple #[]) (by simp [results, Tryz.results125, go_sem]) rfl ⟨rfl, o2, sv2, rv2, hm2, (frA.below hb1).trans fr2⟩
  · rw [hroom] at kr
    simp only [cond_true]
    go_enter Tryz.func125, Tryz.ntmps125
    go_wp2_with fail
    refine (kr.out _ hA).mono ?_
    rintro e w1 ⟨rfl, hb1⟩
    have x1 := x0.below hb1
    have c2 := x1.cell (k := 2) (u := .int .i64 st) rfl
    have fz1 := x1.frozen
    have hm1 := (hA.below hb1).setFar (g := w.heap.size) (by rw [hkey]; exact fun e => hq e.symm) 2 (.int .i64 1)
    have fr1 := (frA.below hb1).setNew (Nat.le_refl _) 2 (.int .i64 1)
    have x2 := x1.set 2 (.int .i64 1)
    go_wp2_with fail
    generalize w1.setCell ⟨w.heap.size, 2, none⟩ (.int .i64 1) = w2 at *
    clear c2 fz1 x1 hb1 x0 hb0 hA frA kr
    have x2 : Blk w2 w.heap.size 106 [.int .i64 k, .int .i64 i, .int .i64 1, .string body] := x2
    have xlt := x2.lt
    have y0 := x2.cell (k := 0) (u := .int .i64 k) rfl
    have y1 := x2.cell (k := 1) (u := .int .i64 i) rfl
    have y2 := x2.cell (k := 2) (u := .int .i64 1) rfl
    have y3 := x2.cell (k := 3) (u := .string body) rfl
    have hmd := hm1.below (Below.refl _ _).drew
    have z0 := hmd.reqv
    refine wp_region_noPanic ?_
    refine wp_region_held_drew (S := fun w' => w'.cell? ⟨w.heap.size, 0, none⟩ = some (.int .i64 k) ∧ w'.cell? ⟨w.heap.size, 1, none⟩ = some (.int .i64 i) ∧ w'.cell? ⟨w.heap.size, 2, none⟩ = some (.int .i64 1) ∧ w'.cell? ⟨w.heap.size, 3, none⟩ = some (.string body)) (by kernel_rfl) ⟨y0, y1, y2, y3⟩ (fun hHeld => ?_)
    refine take_at (i := 0) (v := ?_) rfl (by kernel_rfl) (by kernel_rfl) (by kernel_rfl) (fun _ _ _ h => h) (by rfl) ?_ (by assumption) ?_
    rotate_left
    · (intro wx hSw; obtain ⟨x0, x1, x2, x3⟩ := hSw; go_simp; with_reducible rfl)
    simp only [Act.put, List.setIfInBounds_toArray, List.set_cons_zero, List.set_cons_succ]
    refine take_at (i := 1) (v := ?_) rfl (by kernel_rfl) (by kernel_rfl) (by kernel_rfl) (fun _ _ _ h => h) (by rfl) ?_ (by assumption) ?_
    rotate_left
    · (intro wx hSw; obtain ⟨x0, x1, x2, x3⟩ := hSw; go_simp; with_reducible rfl)
    simp only [Act.put, List.setIfInBounds_toArray, List.set_cons_zero, List.set_cons_succ]
    refine take_at (i := 2) (v := ?_) rfl (by kernel_rfl) (by kernel_rfl) (by kernel_rfl) (fun _ _ _ h => h) (by rfl) ?_ (by assumption) ?_
    rotate_left
    · (intro wx hSw; obtain ⟨x0, x1, x2, x3⟩ := hSw; go_simp; with_reducible rfl)
    simp only [Act.put, List.setIfInBounds_toArray, List.set_cons_zero, List.set_cons_succ]
    refine take_at (i := 3) (v := ?_) rfl (by kernel_rfl) (by kernel_rfl) (by kernel_rfl) (fun _ _ _ h => h) (by rfl) ?_ (by assumption) ?_
    rotate_left
    · (intro wx hSw; obtain ⟨x0, x1, x2, x3⟩ := hSw; go_simp; with_reducible rfl)
    simp only [Act.put, List.setIfInBounds_toArray, List.set_cons_zero, List.set_cons_succ]
    refine take_at (i := 5) (v := ?_) rfl (by kernel_rfl) (by kernel_rfl) (by kernel_rfl) (fun _ _ _ h => h) (by rfl) ?_ (by assumption) ?_
    rotate_left
    · (intro wx hSw; obtain ⟨x0, x1, x2, x3⟩ := hSw; go_simp; with_reducible rfl)
    simp only [Act.put, List.setIfInBounds_toArray, List.set_cons_zero, List.set_cons_succ]
    refine take_at (i := 6) (v := ?_) rfl (by kernel_rfl) (by kernel_rfl) (by kernel_rfl) (fun _ _ _ h => h) (by rfl) ?_ (by assumption) ?_
    rotate_left
    · (intro wx hSw; obtain ⟨x0, x1, x2, x3⟩ := hSw; go_simp; with_reducible rfl)
    simp only [Act.put, List.setIfInBounds_toArray, List.set_cons_zero, List.set_cons_succ]
    refine only_at (i := 4) rfl (by kernel_rfl) (by rfl) (fun K hK => ?_)
    go_simp
    refine hK.out _ _ ⟨y0, y1, y2, y3⟩ ?_
    clear hK K hHeld
    refine only_at (i := 7) rfl (by kernel_rfl) (by rfl) (fun K hK => ?_)
    go_simp
    refine (without_any _ _ _ hmd.reqsAt k i (by omega)).mono ?_
    rintro e w3 ⟨v, rfl, own3, hb3⟩
    obtain ⟨av, cv, hv, -, -⟩ := own_slice own3
    subst hv
    have hm3 := hmd.below hb3
    have x3 := (x2.below (Below.refl _ _).drew).below hb3
    have z3 := hm3.reqv
    have fz := hm3.frozen
    have hS3 : w3.cell? ⟨w.heap.size, 0, none⟩ = some (.int .i64 k) ∧ w3.cell? ⟨w.heap.size, 1, none⟩ = some (.int .i64 i) ∧ w3.cell? ⟨w.heap.size, 2, none⟩ = some (.int .i64 1) ∧ w3.cell? ⟨w.heap.size, 3, none⟩ = some (.string body) := ⟨x3.cell rfl, x3.cell rfl, x3.cell rfl, x3.cell rfl⟩
    refine hK.out _ _ hS3 ?_
    clear hK K y0 y1 y2 y3 z0
    refine take_at (i := 8) (v := ?_) rfl (by kernel_rfl) (by kernel_rfl) (by kernel_rfl) (fun _ _ _ h => h) (by rfl) ?_ (by assumption) ?_
    rotate_left
    · (intro wx hSw; obtain ⟨x0, x1, x2, x3⟩ := hSw; go_simp; with_reducible rfl)
    simp only [Act.put, List.setIfInBounds_toArray, List.set_cons_zero, List.set_cons_succ]
    refine take_at (i := 9) (v := ?_) rfl (by kernel_rfl) (by kernel_rfl) (by kernel_rfl) (fun _ _ _ h => h) (by rfl) ?_ (by assumption) ?_
    rotate_left
    · (intro wx hSw; obtain ⟨x0, x1, x2, x3⟩ := hSw; go_simp; with_reducible rfl)
    simp only [Act.put, List.setIfInBounds_toArray, List.set_cons_zero, List.set_cons_succ]
    refine only_at (i := 10) rfl (by kernel_rfl) (by rfl) (fun K hK => ?_)
    go_simp
    have x4 := x3.keep (w' := w3.setCell ⟨b, 20, none⟩ (.slice av (withoutL m.req k i).length cv)) (Below.heap_setCell _ _ _ _ (by simpa using hnb))
    refine hK.out _ _ ⟨x4.cell rfl, x4.cell rfl, x4.cell rfl, x4.cell rfl⟩ ?_
    clear hK K
    refine wpAnyH_done (by kernel_rfl) ?_ _
    refine NoPanic.normal ?_
    obtain ⟨o4, hm4, fr4⟩ := hmd.newReq hb3 _ (withoutL m.req k i) own3
    have hkey4 : o4 w.heap.size = (0, 0) := (fr4.tags _ xlt).trans hkey
    have frB := (fr1.below (Below.refl _ _).drew).trans fr4
    have hlen := withoutL_len m.req k i
    clear z3 fz hS3 own3 hb3 hm3 hmd hm1 x2 x3 fr1 fr4
    generalize w3.setCell ⟨b, 20, none⟩ (.slice av (withoutL m.req k i).length cv) = w4 at *
    generalize hLL : withoutL m.req k i = L at *
    have HLL : Hid _ := hLL
    clear hLL
    go_wp2_with fail
    have xlt4 := x4.lt
    have y0 := x4.cell (k := 0) (u := .int .i64 k) rfl
    have y1 := x4.cell (k := 1) (u := .int .i64 i) rfl
    have y2 := x4.cell (k := 2) (u := .int .i64 1) rfl
    have y3 := x4.cell (k := 3) (u := .string body) rfl
    have hmd := hm4.below (Below.refl _ _).drew
    have frd := frB.below (Below.refl _ _).drew
    have z0 := hmd.reqv
    have hrown := hmd.reqs.1
    have xA := (x4.below (Below.refl _ _).drew).below ((Below.refl _ _).alloc (Nat.le_refl _) (.cells #[.int .i64 k, .int .i64 i, .int .i64 1, .string body] 106))
    have hSA : (w4.drew.alloc (.cells #[.int .i64 k, .int .i64 i, .int .i64 1, .string body] 106)).cell? ⟨w.heap.size, 0, none⟩ = some (.int .i64 k) ∧ (w4.drew.alloc (.cells #[.int .i64 k, .int .i64 i, .int .i64 1, .string body] 106)).cell? ⟨w.heap.size, 1, none⟩ = some (.int .i64 i) ∧ (w4.drew.alloc (.cells #[.int .i64 k, .int .i64 i, .int .i64 1, .string body] 106)).cell? ⟨w.heap.size, 2, none⟩ = some (.int .i64 1) ∧ (w4.drew.alloc (.cells #[.int .i64 k, .int .i64 i, .int .i64 1, .string body] 106)).cell? ⟨w.heap.size, 3, none⟩ = some (.string body) := ⟨xA.cell rfl, xA.cell rfl, xA.cell rfl, xA.cell rfl⟩
    refine wp_region_noPanic ?_
    refine wp_region_held_drew (S := fun w' => w'.cell? ⟨w.heap.size, 0, none⟩ = some (.int .i64 k) ∧ w'.cell? ⟨w.heap.size, 1, none⟩ = some (.int .i64 i) ∧ w'.cell? ⟨w.heap.size, 2, none⟩ = some (.int .i64 1) ∧ w'.cell? ⟨w.heap.size, 3, none⟩ = some (.string body)) (by kernel_rfl) ⟨y0, y1, y2, y3⟩ (fun hHeld => ?_)
    refine take_at (i := 0) (v := ?_) rfl (by kernel_rfl) (by kernel_rfl) (by kernel_rfl) (fun _ _ _ h => h) (by rfl) ?_ (by assumption) ?_
    rotate_left
    · (intro wx hSw; obtain ⟨x0, x1, x2, x3⟩ := hSw; go_simp; with_reducible rfl)
    simp only [Act.put, List.setIfInBounds_toArray, List.set_cons_zero, List.set_cons_succ]
    refine take_at (i := 1) (v := ?_) rfl (by kernel_rfl) (by kernel_rfl) (by kernel_rfl) (fun _ _ _ h => h) (by rfl) ?_ (by assumption) ?_
    rotate_left
    · (intro wx hSw; obtain ⟨x0, x1, x2, x3⟩ := hSw; go_simp; with_reducible rfl)
    simp only [Act.put, List.setIfInBounds_toArray, List.set_cons_zero, List.set_cons_succ]
    refine take_at (i := 2) (v := ?_) rfl (by kernel_rfl) (by kernel_rfl) (by kernel_rfl) (fun _ _ _ h => h) (by rfl) ?_ (by assumption) ?_
    rotate_left
    · (intro wx hSw; obtain ⟨x0, x1, x2, x3⟩ := hSw; go_simp; with_reducible rfl)
    simp only [Act.put, List.setIfInBounds_toArray, List.set_cons_zero, List.set_cons_succ]
    refine take_at (i := 3) (v := ?_) rfl (by kernel_rfl) (by kernel_rfl) (by kernel_rfl) (fun _ _ _ h => h) (by rfl) ?_ (by assumption) ?_
    rotate_left
    · (intro wx hSw; obtain ⟨x0, x1, x2, x3⟩ := hSw; go_simp; with_reducible rfl)
    simp only [Act.put, List.setIfInBounds_toArray, List.set_cons_zero, List.set_cons_succ]
    refine take_at (i := 5) (v := ?_) rfl (by kernel_rfl) (by kernel_rfl) (by kernel_rfl) (fun _ _ _ h => h) (by rfl) ?_ (by assumption) ?_
    rotate_left
    · (intro wx hSw; obtain ⟨x0, x1, x2, x3⟩ := hSw; go_simp; with_reducible rfl)
    simp only [Act.put, List.setIfInBounds_toArray, List.set_cons_zero, List.set_cons_succ]
    refine two_at (i := 4) (j := 6) rfl rfl (by kernel_rfl) (by rfl) (by rfl) (fun K hK => ?_) (fun K hK => ?_)
    · go_simp
      refine hK.out _ _ ⟨y0, y1, y2, y3⟩ ?_
      clear hK K
      try simp only [Act.put, List.setIfInBounds_toArray, List.set_cons_zero, List.set_cons_succ]
      refine only_at (i := 6) rfl (by kernel_rfl) (by rfl) (fun K hK => ?_)
      go_simp
      refine hK.out _ _ hSA ?_
      clear hK K
      refine only_at (i := 7) rfl (by kernel_rfl) (by rfl) (fun K hK => ?_)
      refine wp_append_lies _ _ _ 57 rfl 0 106 i0 (.agg #[.int .i64 0, .int .i64 0, .int .i64 0, .string ⟨#[]⟩]) 4 40 Tryz.underlying57 hi hz0 hz1 hz2 rfl (by omega) (.slice av L.length cv) L.length (reqCells L) rfl (hrown.alloc _) ⟨w4.heap.size, 0, none⟩ 1 1 (reqCells [⟨k, i, 1, body⟩]) rfl rfl ?_ (reqCells_one _) (by omega) (by unfold maxLen; omega) (by omega) (Nat.zero_le _) _ rfl ?_
      · exact news_req w4.drew _ rfl ⟨k, i, 1, body⟩ _
      intro g5 c5 w5 own5 hg5 hat5 hlt5
      have hmA := hmd.alloc (.cells #[.int .i64 k, .int .i64 i, .int .i64 1, .string body] 106)
      have frC := frd.below (w2 := w4.drew.alloc (.cells #[.int .i64 k, .int .i64 i, .int .i64 1, .string body] 106)) ((Below.refl _ _).alloc (Nat.le_refl _) _)
      have own5' : w5.ownsRow 0 106 4 (.slice (some ⟨g5, 0, none⟩) (L.length + 1) c5) (L ++ [(⟨k, i, 1, body⟩ : Req)]).length (reqCells (L ++ [(⟨k, i, 1, body⟩ : Req)])) := by
        rw [reqCells_append, List.length_append]; exact own5
      have hat5' : (Value.slice av L.length cv).ownBlock = (Value.slice (some ⟨g5, 0, none⟩) (L.length + 1) c5).ownBlock ∨ (Value.slice (some ⟨g5, 0, none⟩) (L.length + 1) c5).ownBlock = some (w4.drew.alloc (.cells #[.int .i64 k, .int .i64 i, .int .i64 1, .string body] 106)).heap.size := by
        rcases hat5 with e | e
        · exact .inl e
        · right; rw [e]; rfl
      obtain ⟨o6, hm6, fr6⟩ := hmA.pushReq _ _ own5' hg5 hat5'
      have hnr : some w.heap.size ≠ (Value.slice av L.length cv).ownBlock := by
        intro e
        have := hmd.reqs.2 _ e.symm
        rw [hkey4] at this
        exact hq (congrArg Prod.fst this).symm
      have x5 : Blk w5 w.heap.size 106 [.int .i64 k, .int .i64 i, .int .i64 1, .string body] := x4.keep ((hg5.block _ (by simp; omega) hnr).trans (Below.heap_alloc _ _ _ xlt4))
      have nb : some b ≠ (Value.slice av L.length cv).ownBlock := by
        intro e
        have := hmd.reqs.2 _ e.symm
        rw [hmd.tag] at this
        simp at this
      have b5 : Blk w5 b _ _ := hmA.blk.keep (hg5.block b hmA.blk.lt nb)
      have z5 := b5.cell (k := 20) (u := .slice av L.length cv) rfl
      have fz5 := b5.frozen
      have hS5 : w5.cell? ⟨w.heap.size, 0, none⟩ = some (.int .i64 k) ∧ w5.cell? ⟨w.heap.size, 1, none⟩ = some (.int .i64 i) ∧ w5.cell? ⟨w.heap.size, 2, none⟩ = some (.int .i64 1) ∧ w5.cell? ⟨w.heap.size, 3, none⟩ = some (.string body) := ⟨x5.cell rfl, x5.cell rfl, x5.cell rfl, x5.cell rfl⟩
      refine hK.out _ _ hS5 ?_
      clear hK K
      try simp only [Act.put, List.setIfInBounds_toArray, List.set_cons_zero, List.set_cons_succ]
      refine take_at (i := 8) (v := ?_) rfl (by kernel_rfl) (by kernel_rfl) (by kernel_rfl) (fun _ _ _ h => h) (by rfl) ?_ (by assumption) ?_
      rotate_left
      · (intro wx hSw; obtain ⟨x0, x1, x2, x3⟩ := hSw; go_simp; with_reducible rfl)
      simp only [Act.put, List.setIfInBounds_toArray, List.set_cons_zero, List.set_cons_succ]
      refine take_at (i := 9) (v := ?_) rfl (by kernel_rfl) (by kernel_rfl) (by kernel_rfl) (fun _ _ _ h => h) (by rfl) ?_ (by assumption) ?_
      rotate_left
      · (intro wx hSw; obtain ⟨x0, x1, x2, x3⟩ := hSw; go_simp; with_reducible rfl)
      simp only [Act.put, List.setIfInBounds_toArray, List.set_cons_zero, List.set_cons_succ]
      refine only_at (i := 10) rfl (by kernel_rfl) (by rfl) (fun K hK => ?_)
      go_simp
      have x6 := x5.keep (w' := w5.setCell ⟨b, 20, none⟩ (.slice (some ⟨g5, 0, none⟩) (L.length + 1) c5)) (Below.heap_setCell _ _ _ _ (by simpa using hnb))
      refine hK.out _ _ ⟨x6.cell rfl, x6.cell rfl, x6.cell rfl, x6.cell rfl⟩ ?_
      clear hK K
      refine wpAnyH_done (by kernel_rfl) ?_ _
      refine NoPanic.normal ?_
      go_wp2
      refine bodyPost_end (v := .tuple #[]) (by simp [results, Tryz.results125, go_sem]) rfl ⟨rfl, ?_⟩
      rw [HLL.out]
      first | exact ⟨o6, sv, _, hm6, frC.trans fr6⟩ | exact ⟨o6, ⟨sv, _, hm6⟩, frC.trans fr6⟩
    · go_simp
      refine hK.out _ _ hSA ?_
      clear hK K
      try simp only [Act.put, List.setIfInBounds_toArray, List.set_cons_zero, List.set_cons_succ]
      have y2a := fun ob => (hm4.alloc ob).reqv
      refine only_at (i := 4) rfl (by kernel_rfl) (by rfl) (fun K hK => ?_)
      go_simp
      refine hK.out _ _ hSA ?_
      clear hK K
      refine only_at (i := 7) rfl (by kernel_rfl) (by rfl) (fun K hK => ?_)
      refine wp_append_lies _ _ _ 57 rfl 0 106 i0 (.agg #[.int .i64 0, .int .i64 0, .int .i64 0, .string ⟨#[]⟩]) 4 40 Tryz.underlying57 hi hz0 hz1 hz2 rfl (by omega) (.slice av L.length cv) L.length (reqCells L) rfl (hrown.alloc _) ⟨w4.heap.size, 0, none⟩ 1 1 (reqCells [⟨k, i, 1, body⟩]) rfl rfl ?_ (reqCells_one _) (by omega) (by unfold maxLen; omega) (by omega) (Nat.zero_le _) _ rfl ?_
      · exact news_req w4.drew _ rfl ⟨k, i, 1, body⟩ _
      intro g5 c5 w5 own5 hg5 hat5 hlt5
      have hmA := hmd.alloc (.cells #[.int .i64 k, .int .i64 i, .int .i64 1, .string body] 106)
      have frC := frd.below (w2 := w4.drew.alloc (.cells #[.int .i64 k, .int .i64 i, .int .i64 1, .string body] 106)) ((Below.refl _ _).alloc (Nat.le_refl _) _)
      have own5' : w5.ownsRow 0 106 4 (.slice (some ⟨g5, 0, none⟩) (L.length + 1) c5) (L ++ [(⟨k, i, 1, body⟩ : Req)]).length (reqCells (L ++ [(⟨k, i, 1, body⟩ : Req)])) := by
        rw [reqCells_append, List.length_append]; exact own5
      have hat5' : (Value.slice av L.length cv).ownBlock = (Value.slice (some ⟨g5, 0, none⟩) (L.length + 1) c5).ownBlock ∨ (Value.slice (some ⟨g5, 0, none⟩) (L.length + 1) c5).ownBlock = some (w4.drew.alloc (.cells #[.int .i64 k, .int .i64 i, .int .i64 1, .string body] 106)).heap.size := by
        rcases hat5 with e | e
        · exact .inl e
        · right; rw [e]; rfl
      obtain ⟨o6, hm6, fr6⟩ := hmA.pushReq _ _ own5' hg5 hat5'
      have hnr : some w.heap.size ≠ (Value.slice av L.length cv).ownBlock := by
        intro e
        have := hmd.reqs.2 _ e.symm
        rw [hkey4] at this
        exact hq (congrArg Prod.fst this).symm
      have x5 : Blk w5 w.heap.size 106 [.int .i64 k, .int .i64 i, .int .i64 1, .string body] := x4.keep ((hg5.block _ (by simp; omega) hnr).trans (Below.heap_alloc _ _ _ xlt4))
      have nb : some b ≠ (Value.slice av L.length cv).ownBlock := by
        intro e
        have := hmd.reqs.2 _ e.symm
        rw [hmd.tag] at this
        simp at this
      have b5 : Blk w5 b _ _ := hmA.blk.keep (hg5.block b hmA.blk.lt nb)
      have z5 := b5.cell (k := 20) (u := .slice av L.length cv) rfl
      have fz5 := b5.frozen
      have hS5 : w5.cell? ⟨w.heap.size, 0, none⟩ = some (.int .i64 k) ∧ w5.cell? ⟨w.heap.size, 1, none⟩ = some (.int .i64 i) ∧ w5.cell? ⟨w.heap.size, 2, none⟩ = some (.int .i64 1) ∧ w5.cell? ⟨w.heap.size, 3, none⟩ = some (.string body) := ⟨x5.cell rfl, x5.cell rfl, x5.cell rfl, x5.cell rfl⟩
      refine hK.out _ _ hS5 ?_
      clear hK K
      try simp only [Act.put, List.setIfInBounds_toArray, List.set_cons_zero, List.set_cons_succ]
      refine take_at (i := 8) (v := ?_) rfl (by kernel_rfl) (by kernel_rfl) (by kernel_rfl) (fun _ _ _ h => h) (by rfl) ?_ (by assumption) ?_
      rotate_left
      · (intro wx hSw; obtain ⟨x0, x1, x2, x3⟩ := hSw; go_simp; with_reducible rfl)
      simp only [Act.put, List.setIfInBounds_toArray, List.set_cons_zero, List.set_cons_succ]
      refine take_at (i := 9) (v := ?_) rfl (by kernel_rfl) (by kernel_rfl) (by kernel_rfl) (fun _ _ _ h => h) (by rfl) ?_ (by assumption) ?_
      rotate_left
      · (intro wx hSw; obtain ⟨x0, x1, x2, x3⟩ := hSw; go_simp; with_reducible rfl)
      simp only [Act.put, List.setIfInBounds_toArray, List.set_cons_zero, List.set_cons_succ]
      refine only_at (i := 10) rfl (by kernel_rfl) (by rfl) (fun K hK => ?_)
      go_simp
      have x6 := x5.keep (w' := w5.setCell ⟨b, 20, none⟩ (.slice (some ⟨g5, 0, none⟩) (L.length + 1) c5)) (Below.heap_setCell _ _ _ _ (by simpa using hnb))
      refine hK.out _ _ ⟨x6.cell rfl, x6.cell rfl, x6.cell rfl, x6.cell rfl⟩ ?_
      clear hK K
      refine wpAnyH_done (by kernel_rfl) ?_ _
      refine NoPanic.normal ?_
      go_wp2
      refine bodyPost_end (v := .tuple #[]) (by simp [results, Tryz.results125, go_sem]) rfl ⟨rfl, ?_⟩
      rw [HLL.out]
      first | exact ⟨o6, sv, _, hm6, frC.trans fr6⟩ | exact ⟨o6, ⟨sv, _, hm6⟩, frC.trans fr6⟩

end
end Go.Proofs.YtlafkpaljibonaaGreat
