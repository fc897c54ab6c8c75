import Derived.Test.YtlafkpaljibonaaJ1
import Derived.Laws.StructEq
namespace Go.Proofs.Ytlafkpaljibonaa
open Go.RowKit

theorem badT_eq (t : ByteArray) : badT t = (byt t 0 != 1 || !isKindB (byt t 1) || (256 * byt t 2 + byt t 3 == 0) || decide (200 < 256 * byt t 4 + byt t 5) || decide (7 < byt t 6) || byt t 7 != 0) := by
  have b2 := byt_bd t 2
  have b3 := byt_bd t 3
  rw [Bool.eq_iff_iff]
  cases hK : isKindB (byt t 1)
  · simp [badT, badB, allowedB, hKind, hK]
  · unfold badT badB allowedB hKind hId hLen hPad
    simp only [hK, Bool.or_eq_true, Bool.not_eq_true', Bool.and_eq_false_iff, decide_eq_true_eq, decide_eq_false_iff_not, bne_iff_ne, beq_iff_eq, Bool.true_eq_false, false_or, or_false, Bool.not_true, Bool.false_eq_true]
    omega

set_option maxRecDepth 100000 in
set_option maxHeartbeats 2000000 in
theorem refHead_raw (t : ByteArray) (w : World) (h : 8 ≤ (t.size : Int)) (hmax : (t.size : Int) ≤ 1000000000000) :
    Calls Try.prog 95 #[.string t] w fun r w' => r = .returned (.agg #[.int .i64 (byt t 1), .int .i64 (256 * byt t 2 + byt t 3), .int .i64 (256 * byt t 4 + byt t 5), .int .i64 (byt t 6), .bool (badT t)]) ∧ Below w.heap.size w w' := by
  have g0 : ∀ w, (Instr.index 9 (.string t) (.int .i64 0)).run Try.prog w = .ok (.int .u8 (byt t 0)) w := fun w => run_byt t 0 (by omega) w
  have b0 := byt_bd t 0
  have g1 : ∀ w, (Instr.index 9 (.string t) (.int .i64 1)).run Try.prog w = .ok (.int .u8 (byt t 1)) w := fun w => run_byt t 1 (by omega) w
  have b1 := byt_bd t 1
  have g2 : ∀ w, (Instr.index 9 (.string t) (.int .i64 2)).run Try.prog w = .ok (.int .u8 (byt t 2)) w := fun w => run_byt t 2 (by omega) w
  have b2 := byt_bd t 2
  have g3 : ∀ w, (Instr.index 9 (.string t) (.int .i64 3)).run Try.prog w = .ok (.int .u8 (byt t 3)) w := fun w => run_byt t 3 (by omega) w
  have b3 := byt_bd t 3
  have g4 : ∀ w, (Instr.index 9 (.string t) (.int .i64 4)).run Try.prog w = .ok (.int .u8 (byt t 4)) w := fun w => run_byt t 4 (by omega) w
  have b4 := byt_bd t 4
  have g5 : ∀ w, (Instr.index 9 (.string t) (.int .i64 5)).run Try.prog w = .ok (.int .u8 (byt t 5)) w := fun w => run_byt t 5 (by omega) w
  have b5 := byt_bd t 5
  have g6 : ∀ w, (Instr.index 9 (.string t) (.int .i64 6)).run Try.prog w = .ok (.int .u8 (byt t 6)) w := fun w => run_byt t 6 (by omega) w
  have b6 := byt_bd t 6
  have g7 : ∀ w, (Instr.index 9 (.string t) (.int .i64 7)).run Try.prog w = .ok (.int .u8 (byt t 7)) w := fun w => run_byt t 7 (by omega) w
  have b7 := byt_bd t 7
  go_enter Try.func95, Try.ntmps95
  go_wp2
  refine wp_region_noPanic ?_
  refine wp_region_held_drew (S := fun _ => True) (by kernel_rfl) trivial (fun hHeld => ?_)
  refine take_at (i := 0) (v := ?tv0) rfl (by kernel_rfl) (by kernel_rfl) (by kernel_rfl) (fun _ _ _ h => h) (by rfl) ?ty0 (by assumption) ?tr0
  case ty0 => (intro w hSw; go_simp; with_reducible rfl)
  simp only [Act.put, List.setIfInBounds_toArray, List.set_cons_zero, List.set_cons_succ]
  refine take_at (i := 1) (v := ?tv1) rfl (by kernel_rfl) (by kernel_rfl) (by kernel_rfl) (fun _ _ _ h => h) (by rfl) ?ty1 (by assumption) ?tr1
  case ty1 => (intro w hSw; go_simp; with_reducible rfl)
  simp only [Act.put, List.setIfInBounds_toArray, List.set_cons_zero, List.set_cons_succ]
  refine take_at (i := 2) (v := ?tv2) rfl (by kernel_rfl) (by kernel_rfl) (by kernel_rfl) (fun _ _ _ h => h) (by rfl) ?ty2 (by assumption) ?tr2
  case ty2 => (intro w hSw; go_simp; with_reducible rfl)
  simp only [Act.put, List.setIfInBounds_toArray, List.set_cons_zero, List.set_cons_succ]
  refine take_at (i := 3) (v := ?tv3) rfl (by kernel_rfl) (by kernel_rfl) (by kernel_rfl) (fun _ _ _ h => h) (by rfl) ?ty3 (by assumption) ?tr3
  case ty3 => (intro w hSw; go_simp; with_reducible rfl)
  simp only [Act.put, List.setIfInBounds_toArray, List.set_cons_zero, List.set_cons_succ]
  refine take_at (i := 4) (v := ?tv4) rfl (by kernel_rfl) (by kernel_rfl) (by kernel_rfl) (fun _ _ _ h => h) (by rfl) ?ty4 (by assumption) ?tr4
  case ty4 => (intro w hSw; go_simp; with_reducible rfl)
  simp only [Act.put, List.setIfInBounds_toArray, List.set_cons_zero, List.set_cons_succ]
  refine take_at (i := 5) (v := ?tv5) rfl (by kernel_rfl) (by kernel_rfl) (by kernel_rfl) (fun _ _ _ h => h) (by rfl) ?ty5 (by assumption) ?tr5
  case ty5 => (intro w hSw; go_simp; with_reducible rfl)
  simp only [Act.put, List.setIfInBounds_toArray, List.set_cons_zero, List.set_cons_succ]
  refine take_at (i := 6) (v := ?tv6) rfl (by kernel_rfl) (by kernel_rfl) (by kernel_rfl) (fun _ _ _ h => h) (by rfl) ?ty6 (by assumption) ?tr6
  case ty6 => (intro w hSw; go_simp; with_reducible rfl)
  simp only [Act.put, List.setIfInBounds_toArray, List.set_cons_zero, List.set_cons_succ]
  refine take_at (i := 7) (v := ?tv7) rfl (by kernel_rfl) (by kernel_rfl) (by kernel_rfl) (fun _ _ _ h => h) (by rfl) ?ty7 (by assumption) ?tr7
  case ty7 => (intro w hSw; go_simp; with_reducible rfl)
  simp only [Act.put, List.setIfInBounds_toArray, List.set_cons_zero, List.set_cons_succ]
  refine take_at (i := 8) (v := ?tv8) rfl (by kernel_rfl) (by kernel_rfl) (by kernel_rfl) (fun _ _ _ h => h) (by rfl) ?ty8 (by assumption) ?tr8
  case ty8 => (intro w hSw; go_simp; with_reducible rfl)
  simp only [Act.put, List.setIfInBounds_toArray, List.set_cons_zero, List.set_cons_succ]
  refine only_at (i := 9) rfl (by kernel_rfl) (by rfl) (fun K hK => ?_)
  go_simp
  refine hK.out _ _ trivial ?_
  clear hK K
  refine wpAnyH_done (by kernel_rfl) ?_ _
  refine NoPanic.normal ?_
  clear hHeld
  go_wp2
  refine wp_region_noPanic ?_
  refine wp_region_held_drew (S := fun _ => True) (by kernel_rfl) trivial (fun hHeld => ?_)
  refine take_at (i := 0) (v := ?uv0) rfl (by kernel_rfl) (by kernel_rfl) (by kernel_rfl) (fun _ _ _ h => h) (by rfl) ?uy0 (by assumption) ?ur0
  case uy0 => (intro w hSw; go_simp; with_reducible rfl)
  simp only [Act.put, List.setIfInBounds_toArray, List.set_cons_zero, List.set_cons_succ]
  refine take_at (i := 1) (v := ?uv1) rfl (by kernel_rfl) (by kernel_rfl) (by kernel_rfl) (fun _ _ _ h => h) (by rfl) ?uy1 (by assumption) ?ur1
  case uy1 => (intro w hSw; go_simp; with_reducible rfl)
  simp only [Act.put, List.setIfInBounds_toArray, List.set_cons_zero, List.set_cons_succ]
  refine take_at (i := 2) (v := ?uv2) rfl (by kernel_rfl) (by kernel_rfl) (by kernel_rfl) (fun _ _ _ h => h) (by rfl) ?uy2 (by assumption) ?ur2
  case uy2 => (intro w hSw; go_simp; with_reducible rfl)
  simp only [Act.put, List.setIfInBounds_toArray, List.set_cons_zero, List.set_cons_succ]
  refine take_at (i := 3) (v := ?uv3) rfl (by kernel_rfl) (by kernel_rfl) (by kernel_rfl) (fun _ _ _ h => h) (by rfl) ?uy3 (by assumption) ?ur3
  case uy3 => (intro w hSw; go_simp; with_reducible rfl)
  simp only [Act.put, List.setIfInBounds_toArray, List.set_cons_zero, List.set_cons_succ]
  refine take_at (i := 4) (v := ?uv4) rfl (by kernel_rfl) (by kernel_rfl) (by kernel_rfl) (fun _ _ _ h => h) (by rfl) ?uy4 (by assumption) ?ur4
  case uy4 => (intro w hSw; go_simp; with_reducible rfl)
  simp only [Act.put, List.setIfInBounds_toArray, List.set_cons_zero, List.set_cons_succ]
  refine take_at (i := 5) (v := ?uv5) rfl (by kernel_rfl) (by kernel_rfl) (by kernel_rfl) (fun _ _ _ h => h) (by rfl) ?uy5 (by assumption) ?ur5
  case uy5 => (intro w hSw; go_simp; with_reducible rfl)
  simp only [Act.put, List.setIfInBounds_toArray, List.set_cons_zero, List.set_cons_succ]
  refine take_at (i := 6) (v := ?uv6) rfl (by kernel_rfl) (by kernel_rfl) (by kernel_rfl) (fun _ _ _ h => h) (by rfl) ?uy6 (by assumption) ?ur6
  case uy6 => (intro w hSw; go_simp; with_reducible rfl)
  simp only [Act.put, List.setIfInBounds_toArray, List.set_cons_zero, List.set_cons_succ]
  refine take_at (i := 7) (v := ?uv7) rfl (by kernel_rfl) (by kernel_rfl) (by kernel_rfl) (fun _ _ _ h => h) (by rfl) ?uy7 (by assumption) ?ur7
  case uy7 => (intro w hSw; go_simp; with_reducible rfl)
  simp only [Act.put, List.setIfInBounds_toArray, List.set_cons_zero, List.set_cons_succ]
  refine take_at (i := 8) (v := ?uv8) rfl (by kernel_rfl) (by kernel_rfl) (by kernel_rfl) (fun _ _ _ h => h) (by rfl) ?uy8 (by assumption) ?ur8
  case uy8 => (intro w hSw; go_simp; with_reducible rfl)
  simp only [Act.put, List.setIfInBounds_toArray, List.set_cons_zero, List.set_cons_succ]
  refine only_at (i := 9) rfl (by kernel_rfl) (by rfl) (fun K hK => ?_)
  go_simp
  refine hK.out _ _ trivial ?_
  clear hK K
  refine wpAnyH_done (by kernel_rfl) ?_ _
  refine NoPanic.normal ?_
  clear hHeld
  go_wp2_with (go_at_call 45; refine (refIsKind_any _ _).mono ?_; rintro e w' ⟨rfl, rfl⟩)
  all_goals
    refine bodyPost_ret (v := .agg #[.int .i64 (byt t 1), .int .i64 (256 * byt t 2 + byt t 3), .int .i64 (256 * byt t 4 + byt t 5), .int .i64 (byt t 6), .bool (badT t)]) (by rw [badT_eq]; simp [results, Try.results95, go_sem, *]) rfl ⟨rfl, ?_⟩
    exact ((((Below.refl _ _).alloc (Nat.le_refl _) _).alloc (by simp) _).drew).drew
end Go.Proofs.Ytlafkpaljibonaa

namespace Go.Proofs.Ytlafkpaljibonaa
open Go.RowKit

theorem refHead_any (t : ByteArray) (w : World) (h : 8 ≤ (t.size : Int)) (hmax : (t.size : Int) ≤ 1000000000000) :
    Calls Try.prog 95 #[.string t] w fun r w' => r = .returned (.agg #[.int .i64 (hKind t), .int .i64 (hId t), .int .i64 (hLen t), .int .i64 (hPad t), .bool (badT t)]) ∧ Below w.heap.size w w' := by
  have e1 : 256 * byt t 2 + byt t 3 = hId t := by unfold hId; omega
  have e2 : 256 * byt t 4 + byt t 5 = hLen t := by unfold hLen; omega
  have := refHead_raw t w h hmax
  rw [e1, e2] at this
  exact this

def wrongB (k n : Int) : Bool := if k = 1 then n != 1 else if k = 2 then n != 0 else k != 5

set_option maxRecDepth 100000 in
set_option maxHeartbeats 400000 in
theorem refWrong_any (k i n p : Int) (b : Bool) (w : World) :
    Calls Try.prog 96 #[.agg #[.int .i64 k, .int .i64 i, .int .i64 n, .int .i64 p, .bool b]] w fun r w' => r = .returned (.bool (wrongB k n)) ∧ Below w.heap.size w w' := by
  unfold wrongB
  by_cases h1 : k = 1
  · subst h1
    go_enter Try.func96, Try.ntmps96
    go_wp2
    go_ret
    exact ⟨rfl, (Below.refl _ _).alloc (Nat.le_refl _) _⟩
  · by_cases h2 : k = 2
    · subst h2
      go_enter Try.func96, Try.ntmps96
      go_wp2
      go_ret
      exact ⟨rfl, (Below.refl _ _).alloc (Nat.le_refl _) _⟩
    · have g1 : (k == 1) = false := by simpa using h1
      have g2 : (k == 2) = false := by simpa using h2
      rw [if_neg h1, if_neg h2]
      clear h1 h2
      go_enter Try.func96, Try.ntmps96
      go_wp2
      go_ret
      exact ⟨rfl, (Below.refl _ _).alloc (Nat.le_refl _) _⟩

/-- A head that may not come from a client. -/
def wrongT (t : ByteArray) : Bool := wrongB (hKind t) (hLen t)
def stopT (c : Bool) (t : ByteArray) : Bool := badT t || (c && wrongT t)
def rcode (c : Bool) (t : ByteArray) : Nat :=
  if (t.size : Int) < 8 then 0 else if stopT c t then 1 else if (t.size : Int) < 8 + hLen t + hPad t then 0 else 2

theorem rcode_false (t : ByteArray) : rcode false t = code t := by simp [rcode, code, stopT]

def rdec (c : Bool) : Nat → ByteArray → Nat → List Rec × Nat × Bool
  | 0, _, i => ([], i, false)
  | f + 1, s, i =>
    if rcode c (left s i) = 0 then ([], i, false)
    else if rcode c (left s i) = 1 then ([], i, true)
    else (recT (left s i) :: (rdec c f s (i + sizeT (left s i))).1, (rdec c f s (i + sizeT (left s i))).2)

theorem rcode_two {c : Bool} {t : ByteArray} (h : rcode c t = 2) : 8 ≤ sizeT t ∧ sizeT t ≤ t.size ∧ stopT c t = false ∧ 8 + hLen t + hPad t ≤ (t.size : Int) ∧ 8 ≤ (t.size : Int) := by
  have hd := hd_bd t
  unfold rcode at h
  split at h
  · cases h
  · split at h
    · cases h
    · split at h
      · cases h
      · rename_i h1 h2 h3
        refine ⟨by unfold sizeT; omega, by unfold sizeT; omega, by simpa using h2, by omega, by omega⟩

theorem rdec_zero {c : Bool} {f : Nat} {s : ByteArray} {i : Nat} (h : rcode c (left s i) = 0) : rdec c f s i = ([], i, false) := by
  cases f with
  | zero => rfl
  | succ f => simp [rdec, h]
theorem rdec_one {c : Bool} {f : Nat} {s : ByteArray} {i : Nat} (h : rcode c (left s i) = 1) : rdec c (f + 1) s i = ([], i, true) := by
  simp [rdec, h]
theorem rdec_two {c : Bool} {f : Nat} {s : ByteArray} {i : Nat} (h : rcode c (left s i) = 2) : rdec c (f + 1) s i = (recT (left s i) :: (rdec c f s (i + sizeT (left s i))).1, (rdec c f s (i + sizeT (left s i))).2) := by
  simp [rdec, h]

def rdL (c : Bool) (s : ByteArray) : List Rec := (rdec c (s.size + 1) s 0).1
def rdN (c : Bool) (s : ByteArray) : Nat := (rdec c (s.size + 1) s 0).2.1
def rdB (c : Bool) (s : ByteArray) : Bool := (rdec c (s.size + 1) s 0).2.2

theorem rdec_false (f : Nat) (s : ByteArray) : ∀ i, (rdec false f s i).1 = (dec f s i).1 ∧ (rdec false f s i).2.1 = (dec f s i).2.1 ∧ (if (rdec false f s i).2.2 then (7 : Int) else 0) = (dec f s i).2.2 := by
  induction f with
  | zero => intro i; simp [rdec, dec]
  | succ f ih =>
    intro i
    simp only [rdec, dec, rcode_false]
    split
    · simp
    · split
      · simp
      · have := ih (i + sizeT (left s i))
        exact ⟨by rw [this.1], this.2.1, this.2.2⟩

theorem wrap_ok {n : Int} (h0 : -9223372036854775808 ≤ n) (h1 : n ≤ 9223372036854775807) : IntKind.i64.wrap n = n := by rw [IntKind.wrap_i64]; omega

theorem slice_rec (s : ByteArray) (k : Nat) (h : (k : Int) + 8 + hLen (left s k) + hPad (left s k) ≤ (s.size : Int)) :
    s.extract ((k : Int) + 8).toNat ((k : Int) + 8 + hLen (left s k)).toNat = (recT (left s k)).2.2 := by
  have hd := hd_bd (left s k)
  unfold recT
  show _ = (left s k).extract 8 (8 + hLen (left s k)).toNat
  generalize hLen (left s k) = ln at *
  unfold left
  rw [ByteArray.extract_extract]
  have e1 : ((k : Int) + 8).toNat = k + 8 := by omega
  have e2 : ((k : Int) + 8 + ln).toNat = min (k + (8 + ln).toNat) s.size := by omega
  rw [e1, e2]

set_option maxRecDepth 100000 in
set_option maxHeartbeats 2000000 in
theorem refRead_any (s : ByteArray) (c : Bool) (w : World) (hmax : (s.size : Int) ≤ 1000000000000) :
    Calls Try.prog 71 #[.string s, .bool c] w fun r w' => ∃ v, r = .returned (.tuple #[v, .int .i64 (rdN c s), .bool (rdB c s)]) ∧ w'.ownsRow w.heap.size 23 3 v (rdL c s).length (rowOf (rdL c s)) ∧ Below w.heap.size w w' := by
  obtain ⟨i0, hi, hz0, hz1, hz2⟩ := info_parts info23
  go_enter Try.func71, Try.ntmps71
  go_wp2
  go_loopw [7, 8] (fun v i w' => ∃ (acc : List Rec) (k f : Nat), i = .int .i64 k ∧ k ≤ s.size ∧ acc.length * 8 ≤ k ∧ s.size - k < f ∧ rdL c s = acc ++ (rdec c f s k).1 ∧ (rdN c s, rdB c s) = (rdec c f s k).2 ∧ w'.ownsRow w.heap.size 23 3 v acc.length (rowOf acc) ∧ Below w.heap.size w w') (fun _ i _ => s.size - (intOf i).toNat)
  case atStart => exact ⟨[], 0, s.size + 1, rfl, Nat.zero_le _, by simp, by omega, rfl, rfl, World.ownsRow_nil _ _ _ _, Below.refl _ _⟩
  case round =>
    obtain ⟨acc, k, f, rfl, hk, hlen, hf, hL, hN, hown, hbel⟩ := hrel
    have HL : Hid _ := hL
    have HN : Hid _ := hN
    clear hL hN
    have hbase := hbel.size
    by_cases hlt : 8 ≤ s.size - k
    · have hls := left_size s k
      have hd := hd_bd (left s k)
      have hge : (8 : Int) ≤ (s.size : Int) - (k : Int) := by omega
      obtain ⟨f', rfl⟩ : ∃ f', f = f' + 1 := ⟨f - 1, by omega⟩
      go_wp2_with fail
      refine (refHead_any (s.extract k s.size) _ (by rw [ByteArray.size_extract]; omega) (by rw [ByteArray.size_extract]; omega)).mono ?_
      rw [show s.extract k s.size = left s k from rfl]
      rintro e w1 ⟨rfl, hb⟩
      have hg : wr.grownBy w1 none := ⟨hb.os, hb.tape, hb.output, hb.size, fun b hb' _ => hb.block b hb'⟩
      have hown1 := hown.kept hg (by cases hv : u7.ownBlock <;> simp)
      have hsz1 := hb.size
      have hbel1 : Below w.heap.size w w1 := hbel.trans (hb.mono hbase)
      clear hg hown hbel hb
      go_wp2_with fail
      refine (refWrong_any _ _ _ _ _ _).mono ?_
      rintro e w2 ⟨rfl, hb2⟩
      obtain ⟨e0, -⟩ := keep_new hb2 0
      obtain ⟨e1, -⟩ := keep_new hb2 1
      obtain ⟨e2, -⟩ := keep_new hb2 2
      obtain ⟨e3, -⟩ := keep_new hb2 3
      obtain ⟨e4, -⟩ := keep_new hb2 4
      simp only [List.getElem?_toArray, List.getElem?_cons_zero, List.getElem?_cons_succ] at e0 e1 e2 e3 e4
      have hg2 : (w1.alloc (.cells #[.int .i64 (hKind (left s k)), .int .i64 (hId (left s k)), .int .i64 (hLen (left s k)), .int .i64 (hPad (left s k)), .bool (badT (left s k))] 131)).grownBy w2 none := ⟨hb2.os, hb2.tape, hb2.output, hb2.size, fun b hb' _ => hb2.block b hb'⟩
      have hown2 := (hown1.alloc _).kept hg2 (by cases hv : u7.ownBlock <;> simp)
      have hsz2 : w1.heap.size < w2.heap.size := by have := hb2.size; simp at this; omega
      have hbel2 : Below w.heap.size w w2 := (hbel1.alloc (by omega) _).trans (hb2.mono (by simp; omega))
      have h7 : ∀ b, u7.ownBlock = some b → w.heap.size ≤ b ∧ b < w1.heap.size := hown1.lt
      have h7' : some w1.heap.size ≠ u7.ownBlock := fun e => by have := h7 _ e.symm; omega
      clear hg2 hown1 hbel1 hb2
      by_cases hstop : stopT c (left s k) = true
      · have hd1 := rdec_one (f := f') (show rcode c (left s k) = 1 from by unfold rcode; rw [if_neg (by rw [hls]; omega), if_pos hstop])
        have hL := HL.out
        have hN := HN.out
        rw [hd1] at hL hN
        simp only [List.append_nil, Prod.mk.injEq] at hL hN
        have HL2 : Hid _ := hL
        have HN2 : Hid _ := hN
        clear hL hN hd1 HL HN hls
        unfold stopT wrongT at hstop
        have hcase : badT (left s k) = true ∨ (badT (left s k) = false ∧ c = true ∧ wrongB (hKind (left s k)) (hLen (left s k)) = true) := by
          cases hbt : badT (left s k) <;> cases c <;> simp_all
        clear hstop
        rcases hcase with hbt | ⟨hbt, rfl, hwt⟩
        · rw [hbt] at e4
          go_wp2
          go_ret3
          refine ⟨u7, by rw [HN2.out.1, HN2.out.2]; rfl, ?_, hbel2⟩
          rw [HL2.out]; exact hown2
        · rw [hbt] at e4
          rw [hwt]
          go_wp2
          go_ret3
          refine ⟨u7, by rw [HN2.out.1, HN2.out.2]; rfl, ?_, hbel2⟩
          rw [HL2.out]; exact hown2
      · have hstop' : stopT c (left s k) = false := by simpa using hstop
        clear hstop
        have hcase : badT (left s k) = false ∧ (c = false ∨ wrongB (hKind (left s k)) (hLen (left s k)) = false) := by
          unfold stopT wrongT at hstop'
          cases hbt : badT (left s k) <;> cases c <;> simp_all
        obtain ⟨hbt, hcw⟩ := hcase
        rw [hbt] at e4
        clear hbt
        by_cases hend : s.size - k < 8 + hLen (left s k) + hPad (left s k)
        · have hd1 := rdec_zero (f := f' + 1) (show rcode c (left s k) = 0 from by unfold rcode; rw [if_neg (by rw [hls]; omega), hstop', if_neg (by simp), if_pos (by rw [hls]; omega)])
          have hL := HL.out
          have hN := HN.out
          rw [hd1] at hL hN
          simp only [List.append_nil, Prod.mk.injEq] at hL hN
          have HL2 : Hid _ := hL
          have HN2 : Hid _ := hN
          clear hL hN hd1 HL HN hls hstop'
          have hend' : (s.size : Int) < (k : Int) + 8 + hLen (left s k) + hPad (left s k) := by omega
          rcases hcw with rfl | hcw
          · go_wp2
            go_ret3
            refine ⟨u7, by rw [HN2.out.1, HN2.out.2]; rfl, ?_, hbel2⟩
            rw [HL2.out]; exact hown2
          · rw [hcw]
            cases c
            all_goals
              go_wp2
              go_ret3
              refine ⟨u7, by rw [HN2.out.1, HN2.out.2]; rfl, ?_, hbel2⟩
              rw [HL2.out]; exact hown2
        · have hd1 := rdec_two (f := f') (show rcode c (left s k) = 2 from by unfold rcode; rw [if_neg (by rw [hls]; omega), hstop', if_neg (by simp), if_neg (by rw [hls]; omega)])
          have hL := HL.out
          have hN := HN.out
          rw [hd1] at hL hN
          have HL2 : Hid _ := hL
          have HN2 : Hid _ := hN
          clear hL hN hd1 HL HN hls hstop'
          have hend' : (k : Int) + 8 + hLen (left s k) + hPad (left s k) ≤ (s.size : Int) := by omega
          have hs : ∀ wx : World, (Instr.slice 9 (.string s) (some (.int .i64 ((k : Int) + 8))) (some (.int .i64 ((k : Int) + 8 + hLen (left s k)))) none).run Try.prog wx = .ok (.string (recT (left s k)).2.2) wx := by
            intro wx
            rw [run_slice_string (P := Try.prog) wx 9 s .i64 .i64 ((k : Int) + 8) ((k : Int) + 8 + hLen (left s k)) Try.underlying9 (by omega) (by omega) (by omega), slice_rec s k hend']
          have hcell : w2.cell? ⟨w1.heap.size, 0, none⟩ = some (.int .i64 (recT (left s k)).1) ∧ w2.cell? ⟨w1.heap.size, 1, none⟩ = some (.int .i64 (recT (left s k)).2.1) := ⟨e0, e1⟩
          obtain ⟨q0, q1⟩ := hcell
          clear e0 e1
          have hzk : ((sizeT (left s k) : Nat) : Int) = 8 + hLen (left s k) + hPad (left s k) := by unfold sizeT; omega
          have HZ : Hid _ := hzk
          clear hzk
          generalize hr : recT (left s k) = r at hs q0 q1
          have HR : Hid _ := hr
          clear hr
          generalize hln : hLen (left s k) = ln at *
          generalize hpd : hPad (left s k) = pd at *
          clear hln hpd
          have hc2 : c = false ∨ (c = true ∧ wrongB (hKind (left s k)) ln = false) := by
            cases c
            · exact .inl rfl
            · exact .inr ⟨rfl, by simpa using hcw⟩
          clear hcw
          generalize wrongB (hKind (left s k)) ln = wb at *
          have hw1 : IntKind.i64.wrap ((k : Int) + 8) = (k : Int) + 8 := wrap_ok (by omega) (by omega)
          have hw2 : IntKind.i64.wrap ((k : Int) + 8 + ln) = (k : Int) + 8 + ln := wrap_ok (by omega) (by omega)
          rcases hc2 with rfl | ⟨rfl, rfl⟩
          all_goals
            go_wp2
            refine wp_region_noPanic ?_
            refine wp_region_held_drew (S := fun w' => w'.cell? ⟨w1.heap.size, 0, none⟩ = some (.int .i64 r.1) ∧ w'.cell? ⟨w1.heap.size, 1, none⟩ = some (.int .i64 r.2.1) ∧ w'.cell? ⟨w1.heap.size, 2, none⟩ = some (.int .i64 ln)) (by kernel_rfl) (by simp [q0, q1, e2]) (fun hHeld => ?_)
            refine take_at (i := 0) (v := ?_) rfl (by kernel_rfl) (by kernel_rfl) (by kernel_rfl) (fun _ _ _ h => h) (by rfl) ?_ (by assumption) ?_
            rotate_left
            · (intro w hSw; go_simp; with_reducible rfl)
            simp only [Act.put, List.setIfInBounds_toArray, List.set_cons_zero, List.set_cons_succ]
            refine take_at (i := 1) (v := ?_) rfl (by kernel_rfl) (by kernel_rfl) (by kernel_rfl) (fun _ _ _ h => h) (by rfl) ?_ (by assumption) ?_
            rotate_left
            · (intro w hSw; go_simp; with_reducible rfl)
            simp only [Act.put, List.setIfInBounds_toArray, List.set_cons_zero, List.set_cons_succ]
            refine take_at (i := 2) (v := ?_) rfl (by kernel_rfl) (by kernel_rfl) (by kernel_rfl) (fun _ _ _ h => h) (by rfl) ?_ (by assumption) ?_
            rotate_left
            · (intro w hSw; go_simp; with_reducible rfl)
            simp only [Act.put, List.setIfInBounds_toArray, List.set_cons_zero, List.set_cons_succ]
            refine take_at (i := 3) (v := ?_) rfl (by kernel_rfl) (by kernel_rfl) (by kernel_rfl) (fun _ _ _ h => h) (by rfl) ?_ (by assumption) ?_
            rotate_left
            · (intro w hSw; go_simp; with_reducible rfl)
            simp only [Act.put, List.setIfInBounds_toArray, List.set_cons_zero, List.set_cons_succ]
            refine take_at (i := 4) (v := ?_) rfl (by kernel_rfl) (by kernel_rfl) (by kernel_rfl) (fun _ _ _ h => h) (by rfl) ?_ (by assumption) ?_
            rotate_left
            · (intro w hSw; go_simp; with_reducible rfl)
            simp only [Act.put, List.setIfInBounds_toArray, List.set_cons_zero, List.set_cons_succ]
            refine take_at (i := 5) (v := ?_) rfl (by kernel_rfl) (by kernel_rfl) (by kernel_rfl) (fun _ _ _ h => h) (by rfl) ?_ (by assumption) ?_
            rotate_left
            · (intro w hSw; go_simp; with_reducible rfl)
            simp only [Act.put, List.setIfInBounds_toArray, List.set_cons_zero, List.set_cons_succ]
            refine take_at (i := 6) (v := ?_) rfl (by kernel_rfl) (by kernel_rfl) (by kernel_rfl) (fun _ _ _ h => h) (by rfl) ?_ (by assumption) ?_
            rotate_left
            · (intro w hSw; go_simp; with_reducible rfl)
            simp only [Act.put, List.setIfInBounds_toArray, List.set_cons_zero, List.set_cons_succ]
            refine take_at (i := 7) (v := ?_) rfl (by kernel_rfl) (by kernel_rfl) (by kernel_rfl) (fun _ _ _ h => h) (by rfl) ?_ (by assumption) ?_
            rotate_left
            · (intro w hSw; go_simp; with_reducible rfl)
            simp only [Act.put, List.setIfInBounds_toArray, List.set_cons_zero, List.set_cons_succ]
            refine take_at (i := 8) (v := ?_) rfl (by kernel_rfl) (by kernel_rfl) (by kernel_rfl) (fun _ _ _ h => h) (by rfl) ?_ (by assumption) ?_
            rotate_left
            · (intro w hSw; go_simp; with_reducible rfl)
            simp only [Act.put, List.setIfInBounds_toArray, List.set_cons_zero, List.set_cons_succ]
            refine take_at (i := 9) (v := ?_) rfl (by kernel_rfl) (by kernel_rfl) (by kernel_rfl) (fun _ _ _ h => h) (by rfl) ?_ (by assumption) ?_
            rotate_left
            · (intro w hSw; go_simp; with_reducible rfl)
            simp only [Act.put, List.setIfInBounds_toArray, List.set_cons_zero, List.set_cons_succ]
            refine take_at (i := 10) (v := ?_) rfl (by kernel_rfl) (by kernel_rfl) (by kernel_rfl) (fun _ _ _ h => h) (by rfl) ?_ (by assumption) ?_
            rotate_left
            · (intro w hSw; go_simp; with_reducible rfl)
            simp only [Act.put, List.setIfInBounds_toArray, List.set_cons_zero, List.set_cons_succ]
            refine take_at (i := 11) (v := ?_) rfl (by kernel_rfl) (by kernel_rfl) (by kernel_rfl) (fun _ _ _ h => h) (by rfl) ?_ (by assumption) ?_
            rotate_left
            · (intro w hSw; go_simp; with_reducible rfl)
            simp only [Act.put, List.setIfInBounds_toArray, List.set_cons_zero, List.set_cons_succ]
            refine take_at (i := 12) (v := ?_) rfl (by kernel_rfl) (by kernel_rfl) (by kernel_rfl) (fun _ _ _ h => h) (by rfl) ?_ (by assumption) ?_
            rotate_left
            · (intro w hSw; go_simp; with_reducible rfl)
            simp only [Act.put, List.setIfInBounds_toArray, List.set_cons_zero, List.set_cons_succ]
            refine take_at (i := 13) (v := ?_) rfl (by kernel_rfl) (by kernel_rfl) (by kernel_rfl) (fun _ _ _ h => h) (by rfl) ?_ (by assumption) ?_
            rotate_left
            · (intro w hSw; go_simp; with_reducible rfl)
            simp only [Act.put, List.setIfInBounds_toArray, List.set_cons_zero, List.set_cons_succ]
            refine take_at (i := 14) (v := ?_) rfl (by kernel_rfl) (by kernel_rfl) (by kernel_rfl) (fun _ _ _ h => h) (by rfl) ?_ (by assumption) ?_
            rotate_left
            · (intro w hSw; go_simp; with_reducible rfl)
            simp only [Act.put, List.setIfInBounds_toArray, List.set_cons_zero, List.set_cons_succ]
            refine only_at (i := 15) rfl (by kernel_rfl) (by rfl) (fun K hK => ?_)
            go_simp
            refine hK.out _ _ (by simp [q0, q1, e2, World.cell?_alloc_some]) ?_
            clear hK K hHeld
            refine only_at (i := 16) rfl (by kernel_rfl) (by rfl) (fun K hK => ?_)
            refine wp_append_own _ _ _ 32 rfl w.heap.size 23 i0 (.agg #[.int .i64 0, .int .i64 0, .string ⟨#[]⟩]) 3 32 Try.underlying32 hi hz0 hz1 hz2 rfl (by omega) u7 acc.length (rowOf acc) rfl (hown2.alloc _) ⟨w2.heap.size, 0, none⟩ 1 1 (rcells r) rfl rfl ?_ (one_rec r) (by unfold maxLen; omega) (by omega) (by simp; omega) ?_
            · exact news_rec w2 _ rfl r _
            intro v' w3 hown3 hgrow _
            have hq : ∀ (o : Nat) (x : Value), w2.cell? ⟨w1.heap.size, o, none⟩ = some x → w3.cell? ⟨w1.heap.size, o, none⟩ = some x := fun o x hx =>
              hgrow.cell (by simp [hx, World.cell?_alloc_some]) h7'
            refine hK.out _ _ ⟨hq _ _ q0, hq _ _ q1, hq _ _ e2⟩ ?_
            clear hK K
            simp only [Act.put, List.setIfInBounds_toArray, List.set_cons_zero, List.set_cons_succ]
            refine only_at (i := 17) rfl (by kernel_rfl) (by rfl) (fun K hK => ?_)
            go_simp
            refine hK.out _ _ ⟨hq _ _ q0, hq _ _ q1, hq _ _ e2⟩ ?_
            clear hK K hq
            refine wpAnyH_done (by kernel_rfl) ?_ _
            refine NoPanic.normal ?_
            clear e2 e3 e4 q0 q1 hs hw1 hw2
            go_wp2
            have hsz3 : w2.heap.size < w3.heap.size := by have := hgrow.size; simp at this; omega
            have hL := HL2.out
            have hN := HN2.out
            have hZ := HZ.out
            rw [HR.out] at hL
            refine ⟨⟨acc ++ [r], k + sizeT (left s k), f', by rw [show (k : Int) + 8 + ln + pd = ((k + sizeT (left s k) : Nat) : Int) from by omega], by omega, by simp; omega, by omega, by simpa using hL, hN, ?_, ?_⟩, by simp [intOf]; omega⟩
            · rw [rowOf_append, rowOf_one]; simpa using hown3
            · refine (hbel2.alloc (by omega) _).drew.grown hgrow (by simp; omega) ?_
              intro b hbk
              exact (h7 b hbk).1
    · go_wp2
      go_ret3
      have hd := rdec_zero (f := f) (show rcode c (left s k) = 0 from by unfold rcode; rw [if_pos]; rw [left_size]; omega)
      have hL := HL.out
      have hN := HN.out
      rw [hd] at hL hN
      simp only [List.append_nil, Prod.mk.injEq] at hL hN
      refine ⟨u7, by rw [hN.1, hN.2]; rfl, ?_, hbel⟩
      rw [hL]; exact hown

theorem refDecode_any (s : ByteArray) (w : World) (hmax : (s.size : Int) ≤ 1000000000000) :
    Calls Try.prog 46 #[.string s] w fun r w' => ∃ v, r = .returned (.tuple #[v, .int .i64 (decN s), .int .i64 (decE s)]) ∧ w'.ownsRow w.heap.size 23 3 v (decL s).length (rowOf (decL s)) ∧ Below w.heap.size w w' := by
  obtain ⟨h1, h2, h3⟩ := rdec_false (s.size + 1) s 0
  have e1 : rdL false s = decL s := h1
  have e2 : rdN false s = decN s := h2
  have e3 : (if rdB false s then (7 : Int) else 0) = decE s := h3
  rw [← e1, ← e2, ← e3]
  clear h1 h2 h3 e1 e2 e3
  cases hB : rdB false s
  all_goals
    go_enter Try.func46, Try.ntmps46
    go_wp2_with fail
    refine (refRead_any s false _ hmax).mono ?_
    rintro e w' ⟨v, rfl, hown, hb⟩
    rw [hB]
    go_wp2
    go_ret3
    exact ⟨v, rfl, hown, hb⟩

end Go.Proofs.Ytlafkpaljibonaa

namespace Go.Proofs.Ytlafkpaljibonaa
open Go.RowKit

theorem own_empty {w : World} {base : Nat} {e : TypeId} {size : Nat} {v : Value} {xs : List Value} (h : w.ownsRow base e size v 0 xs) : ∃ a c, v = .slice a 0 c := by
  rcases h.2 with ⟨rfl, _⟩ | ⟨g, cap, cur, rfl, _⟩
  · exact ⟨_, _, rfl⟩
  · exact ⟨_, _, rfl⟩

theorem own_cells {w : World} {base g c : Nat} {l : List Rec} (h : w.ownsRow base 23 3 (.slice (some ⟨g, 0, none⟩) l.length c) l.length (rowOf l)) :
    ∀ k (hk : k < l.length), w.cell? ⟨g, k * 3, none⟩ = some (.int .i64 l[k].1) ∧ w.cell? ⟨g, k * 3 + 1, none⟩ = some (.int .i64 l[k].2.1) ∧ w.cell? ⟨g, k * 3 + 2, none⟩ = some (.string l[k].2.2) := by
  intro k hk
  have := rowOf_get l k hk
  rw [Nat.mul_comm 3 k] at this
  rw [h.cellAt _ (by omega), h.cellAt _ (by omega), h.cellAt _ (by omega)]
  exact this

set_option maxRecDepth 100000 in
set_option maxHeartbeats 1000000 in
theorem sameRecords_nil (a b : Option Addr) (c d : Nat) (w : World) :
    Calls Try.prog 47 #[.slice a 0 c, .slice b 0 d] w fun r w' => r = .returned (.bool true) ∧ ∃ n, w' = w.drewN n := by
  go_enter Try.func47, Try.ntmps47
  go_wp2
  refine wp_loop_rounds 1 ?_
  rw [rounds_succ]
  go_wp2
  go_ret
  exact ⟨rfl, 0, rfl⟩

set_option maxRecDepth 100000 in
set_option maxHeartbeats 1000000 in
theorem sameRecords_some (g1 g2 c1 c2 : Nat) (l : List Rec) (w : World) (hl : l.length ≤ 1000000000000)
    (h1 : ∀ k (hk : k < l.length), w.cell? ⟨g1, k * 3, none⟩ = some (.int .i64 l[k].1) ∧ w.cell? ⟨g1, k * 3 + 1, none⟩ = some (.int .i64 l[k].2.1) ∧ w.cell? ⟨g1, k * 3 + 2, none⟩ = some (.string l[k].2.2))
    (h2 : ∀ k (hk : k < l.length), w.cell? ⟨g2, k * 3, none⟩ = some (.int .i64 l[k].1) ∧ w.cell? ⟨g2, k * 3 + 1, none⟩ = some (.int .i64 l[k].2.1) ∧ w.cell? ⟨g2, k * 3 + 2, none⟩ = some (.string l[k].2.2)) :
    Calls Try.prog 47 #[.slice (some ⟨g1, 0, none⟩) l.length c1, .slice (some ⟨g2, 0, none⟩) l.length c2] w fun r w' => r = .returned (.bool true) ∧ ∃ n, w' = w.drewN n := by
  go_enter Try.func47, Try.ntmps47
  go_wp2
  go_loopw [5] (fun i w' => ∃ k m : Nat, k ≤ l.length ∧ i = .int .i64 k ∧ w' = w.drewN m) (fun i _ => l.length - (intOf i).toNat)
  case atStart => exact ⟨0, 0, Nat.zero_le _, rfl, rfl⟩
  case round =>
    obtain ⟨k, m, hk, rfl, rfl⟩ := hrel
    by_cases hlt : k < l.length
    · obtain ⟨p1, p2, p3⟩ := h1 k hlt
      obtain ⟨q1, q2, q3⟩ := h2 k hlt
      clear h1 h2
      generalize l[k] = r at *
      go_wp2
      go_quiet (fail)
      go_wp2
      exact ⟨⟨k + 1, m + nq, by omega, by go_num, rfl⟩, by simp [intOf]; omega⟩
    · go_wp2
      go_ret
      exact ⟨rfl, m, rfl⟩

theorem sameRecords_own (va vb : Value) (b1 b2 : Nat) (l : List Rec) (w : World) (hl : l.length ≤ 1000000000000)
    (h1 : w.ownsRow b1 23 3 va l.length (rowOf l)) (h2 : w.ownsRow b2 23 3 vb l.length (rowOf l)) :
    Calls Try.prog 47 #[va, vb] w fun r w' => r = .returned (.bool true) ∧ ∃ n, w' = w.drewN n := by
  by_cases h0 : l.length = 0
  · rw [h0] at h1 h2
    obtain ⟨a, c, rfl⟩ := own_empty h1
    obtain ⟨b, d, rfl⟩ := own_empty h2
    exact sameRecords_nil a b c d w
  · obtain ⟨g1, c1, rfl, -, -⟩ := h1.form (by omega)
    obtain ⟨g2, c2, rfl, -, -⟩ := h2.form (by omega)
    exact sameRecords_some g1 g2 c1 c2 l w hl (own_cells h1) (own_cells h2)

set_option maxRecDepth 100000 in
set_option maxHeartbeats 1000000 in
theorem same_nil (a b : Option Addr) (c d : Nat) (w : World) :
    Calls Try.prog 20 #[.slice a 0 c, .slice b 0 d] w fun r w' => r = .returned (.bool true) ∧ ∃ n, w' = w.drewN n := by
  go_enter Try.func20, Try.ntmps20
  go_wp2
  refine wp_loop_rounds 1 ?_
  rw [rounds_succ]
  go_wp2
  go_ret
  exact ⟨rfl, 0, rfl⟩

set_option maxRecDepth 100000 in
set_option maxHeartbeats 1000000 in
theorem same_some (g1 g2 c1 c2 : Nat) (l : List Rec) (w : World) (hl : l.length ≤ 1000000000000)
    (h1 : ∀ k (hk : k < l.length), w.cell? ⟨g1, k * 3, none⟩ = some (.int .i64 l[k].1) ∧ w.cell? ⟨g1, k * 3 + 1, none⟩ = some (.int .i64 l[k].2.1) ∧ w.cell? ⟨g1, k * 3 + 2, none⟩ = some (.string l[k].2.2))
    (h2 : ∀ k (hk : k < l.length), w.cell? ⟨g2, k * 3, none⟩ = some (.int .i64 l[k].1) ∧ w.cell? ⟨g2, k * 3 + 1, none⟩ = some (.int .i64 l[k].2.1) ∧ w.cell? ⟨g2, k * 3 + 2, none⟩ = some (.string l[k].2.2)) :
    Calls Try.prog 20 #[.slice (some ⟨g1, 0, none⟩) l.length c1, .slice (some ⟨g2, 0, none⟩) l.length c2] w fun r w' => r = .returned (.bool true) ∧ ∃ n, w' = w.drewN n := by
  go_enter Try.func20, Try.ntmps20
  go_wp2
  go_loopw [5] (fun i w' => ∃ k m : Nat, k ≤ l.length ∧ i = .int .i64 k ∧ w' = w.drewN m) (fun i _ => l.length - (intOf i).toNat)
  case atStart => exact ⟨0, 0, Nat.zero_le _, rfl, rfl⟩
  case round =>
    obtain ⟨k, m, hk, rfl, rfl⟩ := hrel
    by_cases hlt : k < l.length
    · obtain ⟨p1, p2, p3⟩ := h1 k hlt
      obtain ⟨q1, q2, q3⟩ := h2 k hlt
      clear h1 h2
      generalize l[k] = r at *
      go_wp2
      go_quiet (fail)
      go_wp2
      exact ⟨⟨k + 1, m + nq, by omega, by go_num, rfl⟩, by simp [intOf]; omega⟩
    · go_wp2
      go_ret
      exact ⟨rfl, m, rfl⟩

theorem same_own (va vb : Value) (b1 b2 : Nat) (l : List Rec) (w : World) (hl : l.length ≤ 1000000000000)
    (h1 : w.ownsRow b1 23 3 va l.length (rowOf l)) (h2 : w.ownsRow b2 23 3 vb l.length (rowOf l)) :
    Calls Try.prog 20 #[va, vb] w fun r w' => r = .returned (.bool true) ∧ ∃ n, w' = w.drewN n := by
  by_cases h0 : l.length = 0
  · rw [h0] at h1 h2
    obtain ⟨a, c, rfl⟩ := own_empty h1
    obtain ⟨b, d, rfl⟩ := own_empty h2
    exact same_nil a b c d w
  · obtain ⟨g1, c1, rfl, -, -⟩ := h1.form (by omega)
    obtain ⟨g2, c2, rfl, -, -⟩ := h2.form (by omega)
    exact same_some g1 g2 c1 c2 l w hl (own_cells h1) (own_cells h2)
end Go.Proofs.Ytlafkpaljibonaa

namespace Go.Proofs.Ytlafkpaljibonaa
open Go.RowKit

def pickI (c n : Int) : Int := (if c < 0 then -(c + 1) else c) % n

theorem pickI_bd (c n : Int) (hn : 0 < n) : 0 ≤ pickI c n ∧ pickI c n < n := ⟨Int.emod_nonneg _ (by omega), Int.emod_lt_of_pos _ hn⟩

theorem neg_tm (c n : Int) (hc : c < 0) : -(c + 1).tmod n = -(c + 1) % n := by
  rw [← Int.neg_tmod, Int.tmod_eq_emod_of_nonneg (by omega)]

set_option maxRecDepth 100000 in
set_option maxHeartbeats 400000 in
theorem pick_any (c n : Int) (w : World) (h0 : -9223372036854775808 ≤ c) (h1 : c ≤ 9223372036854775807) (hn : 0 < n) (hn2 : n ≤ 1000000000) :
    Calls Try.prog 15 #[.int .i64 c, .int .i64 n] w fun r w' => r = .returned (.int .i64 (pickI c n)) ∧ w' = w := by
  have hnz : (n == 0) = false := by simp; omega
  unfold pickI
  by_cases hc : c < 0
  · rw [if_pos hc]
    go_enter Try.func15, Try.ntmps15
    go_wp2
    go_ret
    refine ⟨?_, rfl⟩
    rw [← neg_tm c n hc]; rfl
  · rw [if_neg hc]
    go_enter Try.func15, Try.ntmps15
    go_wp2
    go_ret
    exact ⟨rfl, rfl⟩

def shortB (s : ByteArray) (n : Nat) : ByteArray := if n < s.size then s.extract 0 n else s

set_option maxRecDepth 100000 in
set_option maxHeartbeats 400000 in
theorem short_any (s : ByteArray) (n : Nat) (w : World) (hn : n ≤ 1000000) :
    Calls Try.prog 30 #[.string s, .int .i64 n] w fun r w' => r = .returned (.string (shortB s n)) ∧ w' = w := by
  unfold shortB
  by_cases hc : n < s.size
  · rw [if_pos hc]
    go_enter Try.func30, Try.ntmps30
    go_wp2
    go_ret
    exact ⟨rfl, rfl⟩
  · rw [if_neg hc]
    go_enter Try.func30, Try.ntmps30
    go_wp2
    go_ret
    exact ⟨rfl, rfl⟩

/-- The kinds, by their places. -/
def kindAt (j : Int) : Int := if j = 0 then 1 else if j = 1 then 2 else if j = 2 then 3 else if j = 3 then 5 else 6

theorem kindAt_ok (j : Int) : isKindB (kindAt j) = true := by
  unfold kindAt
  split
  · rfl
  · split
    · rfl
    · split
      · rfl
      · split <;> rfl

def shK (k : Int) : Int := kindAt (pickI k 5)
def shI (i : Int) : Int := 1 + pickI i 65535
def shC (c : ByteArray) : ByteArray := shortB c 200

theorem arr5 (w : World) (g : Nat) (hg : w.heap.size = g) (j : Int) (h0 : 0 ≤ j) (h5 : j < 5) (T : TypeId) :
    (w.alloc (.cells #[.int .i64 1, .int .i64 2, .int .i64 3, .int .i64 5, .int .i64 6] T)).cell? ⟨g, j.toNat, none⟩ = some (.int .i64 (kindAt j)) := by
  rw [World.cell?_alloc_at _ _ _ _ hg.symm]
  have : j = 0 ∨ j = 1 ∨ j = 2 ∨ j = 3 ∨ j = 4 := by omega
  rcases this with rfl | rfl | rfl | rfl | rfl <;> rfl

/-- The world of 'shaped' ahead of its last statement. -/
def shW (w : World) (k i : Int) (c : ByteArray) : World :=
  ((w.alloc (.cells #[.int .i64 k, .int .i64 i, .string c] 23)).alloc (.cells #[.int .i64 0, .int .i64 0, .string ⟨#[]⟩] 23)).alloc (.cells #[.int .i64 1, .int .i64 2, .int .i64 3, .int .i64 5, .int .i64 6] 89)

structure ShF (w W : World) (k i : Int) (c : ByteArray) (j : Int) : Prop where
  a0 : W.cell? ⟨w.heap.size, 0, none⟩ = some (.int .i64 k)
  a1 : W.cell? ⟨w.heap.size, 1, none⟩ = some (.int .i64 i)
  a2 : W.cell? ⟨w.heap.size, 2, none⟩ = some (.string c)
  b0 : W.cell? ⟨w.heap.size + 1, 0, none⟩ = some (.int .i64 0)
  b1 : W.cell? ⟨w.heap.size + 1, 1, none⟩ = some (.int .i64 0)
  b2 : W.cell? ⟨w.heap.size + 1, 2, none⟩ = some (.string ⟨#[]⟩)
  fz : ∀ o, W.frozen? ⟨w.heap.size + 1, o, none⟩ = false
  c0 : W.cell? ⟨w.heap.size + 1 + 1, j.toNat, none⟩ = some (.int .i64 (kindAt j))
  bel : Below w.heap.size w W

theorem shF (w : World) (k i : Int) (c : ByteArray) (j : Int) (h0 : 0 ≤ j) (h5 : j < 5) : ShF w (shW w k i c) k i c j := by
  refine ⟨?_, ?_, ?_, ?_, ?_, ?_, ?_, ?_, ?_⟩
  · simp [shW, go_sem]
  · simp [shW, go_sem]
  · simp [shW, go_sem]
  · simp [shW, go_sem]
  · simp [shW, go_sem]
  · simp [shW, go_sem]
  · intro o; simp [shW, go_sem]
  · exact arr5 _ _ (by simp) j h0 h5 _
  · exact (((Below.refl _ _).alloc (Nat.le_refl _) _).alloc (by simp) _).alloc (by simp; omega) _

set_option maxRecDepth 100000 in
set_option maxHeartbeats 2000000 in
theorem shaped_any (k i : Int) (c : ByteArray) (w : World) (k0 : -9223372036854775808 ≤ k) (k1 : k ≤ 9223372036854775807) (i0 : -9223372036854775808 ≤ i) (i1 : i ≤ 9223372036854775807) :
    Calls Try.prog 14 #[.agg #[.int .i64 k, .int .i64 i, .string c]] w fun r w' => r = .returned (.agg #[.int .i64 (shK k), .int .i64 (shI i), .string (shC c)]) ∧ Below w.heap.size w w' := by
  unfold shK shI shC
  have pk := pickI_bd k 5 (by omega)
  have pi := pickI_bd i 65535 (by omega)
  have hF := shF w k i c _ pk.1 pk.2
  have ck : ∀ wx, Calls Try.prog 15 #[.int .i64 k, .int .i64 5] wx fun r w' => r = .returned (.int .i64 (pickI k 5)) ∧ w' = wx := fun wx => pick_any k 5 wx k0 k1 (by omega) (by omega)
  have ci : ∀ wx, Calls Try.prog 15 #[.int .i64 i, .int .i64 65535] wx fun r w' => r = .returned (.int .i64 (pickI i 65535)) ∧ w' = wx := fun wx => pick_any i 65535 wx i0 i1 (by omega) (by omega)
  have cc : ∀ wx, Calls Try.prog 30 #[.string c, .int .i64 200] wx fun r w' => r = .returned (.string (shortB c 200)) ∧ w' = wx := fun wx => short_any c 200 wx (by omega)
  generalize pickI k 5 = pk5 at *
  generalize pickI i 65535 = pi6 at *
  generalize shortB c 200 = c2 at *
  have CK := (show Hid _ from ck)
  have CI := (show Hid _ from ci)
  have CC := (show Hid _ from cc)
  clear ck ci cc
  go_enter Try.func14, Try.ntmps14
  go_wp2
  change Code.wp _ _ _ _ (shW w k i c)
  generalize shW w k i c = W at *
  obtain ⟨a0, a1, a2, b0, b1, b2, fz, c0, bel⟩ := hF
  have hw : IntKind.i64.wrap (1 + pi6) = 1 + pi6 := wrap_ok (by omega) (by omega)
  go_region_held3 (fun w' => w'.cell? ⟨w.heap.size, 0, none⟩ = some (.int .i64 k) ∧ w'.cell? ⟨w.heap.size, 1, none⟩ = some (.int .i64 i) ∧ w'.cell? ⟨w.heap.size, 2, none⟩ = some (.string c) ∧ w'.cell? ⟨w.heap.size + 1 + 1, pk5.toNat, none⟩ = some (.int .i64 (kindAt pk5))) (go_keep)
    (first | (go_at_call_of 15 (Value.int IntKind.i64 k); refine (CK.out _).mono ?_; rintro e w' ⟨rfl, rfl⟩) | (go_at_call_of 15 (Value.int IntKind.i64 i); refine (CI.out _).mono ?_; rintro e w' ⟨rfl, rfl⟩) | (go_at_call 30; refine (CC.out _).mono ?_; rintro e w' ⟨rfl, rfl⟩))
  go_wp2
  refine bodyPost_ret (v := .agg #[.int .i64 (kindAt pk5), .int .i64 (1 + pi6), .string c2]) (by simp [results, Try.results14, go_sem, b0, b1, b2]) rfl ⟨rfl, ?_⟩
  exact (((bel.setCell (by simp) _).setCell (by simp) _).setCell (by simp) _).drew

/-- The padding that 'bytes' writes. -/
def padL (n : Nat) : List Int := (List.range n).map fun (j : Nat) => 17 * (j : Int)

theorem padL_succ (n : Nat) : padL (n + 1) = padL n ++ [17 * (n : Int)] := by simp [padL, List.range_succ]
theorem padL_length (n : Nat) : (padL n).length = n := by simp [padL]

def headL (k i : Int) (c p : Int) : List Int := [1, k, i / 256, i % 256, 0, c, p, 0]

theorem enc_padL (k i : Int) (c : ByteArray) (n : Nat) : enc k i c (padL n) = strOfNums (headL k i c.size n ++ nums c ++ padL n) := by
  simp [enc, headL, padL_length]

theorem str_push (a : List Int) (x : Int) : strOfNums a ++ strOfNums [x] = strOfNums (a ++ [x]) := strOfNums_append a [x]

set_option maxRecDepth 100000 in
set_option maxHeartbeats 2000000 in
theorem bytes_any (k i : Int) (c : ByteArray) (n : Nat) (w : World) (hk : 1 ≤ k ∧ k ≤ 6) (hi : 1 ≤ i ∧ i ≤ 65535) (hc : (c.size : Int) ≤ 200) (hn : n ≤ 7) :
    Calls Try.prog 16 #[.int .i64 k, .int .i64 i, .string c, .int .i64 n] w fun r w' => r = .returned (.string (enc k i c (padL n))) ∧ Below w.heap.size w w' := by
  have hm : (c.size : Int) % 256 = c.size := by omega
  have hnm : (n : Int) % 256 = n := by omega
  have hcv := conv_lit w w.heap.size rfl 8 (headL k i c.size n) #[.int .u8 1, .int .u8 k, .int .u8 (i / 256), .int .u8 (i % 256), .int .u8 0, .int .u8 c.size, .int .u8 n, .int .u8 0] rfl rfl (by omega)
  have hsz : (strOfNums (headL k i c.size n)).size = 8 := by simp [strOfNums_size, headL]
  rw [enc_padL]
  generalize headL k i c.size n = hd at *
  go_enter Try.func16, Try.ntmps16
  go_wp2
  clear hcv
  go_loopw [9, 10] (fun v j w' => ∃ m : Nat, m ≤ n ∧ j = .int .i64 m ∧ v = .string (strOfNums (hd ++ nums c ++ padL m)) ∧ Below w.heap.size w w') (fun _ j _ => n - (intOf j).toNat)
  case atStart =>
    refine ⟨0, Nat.zero_le _, rfl, ?_, (Below.refl _ _).alloc (Nat.le_refl _) _⟩
    have := strOfNums_append hd (nums c)
    rw [strOfNums_nums] at this
    rw [this]; simp [padL]
  case round =>
    obtain ⟨m, hm2, rfl, rfl, hb⟩ := hrel
    have hb' := hb.size
    by_cases hlt : m < n
    · have hcv2 := conv_lit wr wr.heap.size rfl 1 [17 * (m : Int)] #[.int .u8 (17 * (m : Int))] rfl rfl (by omega)
      have hpu := str_push (hd ++ nums c ++ padL m) (17 * (m : Int))
      have hl : (strOfNums (hd ++ nums c ++ padL m)).size ≤ 1000 := by
        have h8 := hsz
        rw [strOfNums_size] at h8
        simp [strOfNums_size, nums_length, padL_length]; omega
      have hl1 : (strOfNums [17 * (m : Int)]).size = 1 := by simp [strOfNums_size]
      rw [show hd ++ nums c ++ padL m ++ [17 * (m : Int)] = hd ++ nums c ++ padL (m + 1) from by rw [padL_succ, List.append_assoc]] at hpu
      generalize strOfNums [17 * (m : Int)] = one at *
      generalize strOfNums (hd ++ nums c ++ padL m) = cur at *
      have HP : Hid _ := hpu
      clear hpu
      have h256 : (17 * (m : Int)) % 256 = 17 * m := by omega
      go_wp2
      refine ⟨⟨m + 1, by omega, by go_num, by rw [HP.out], hb.alloc (by omega) _⟩, by simp [intOf]; omega⟩
    · have : m = n := by omega
      subst this
      go_wp2
      go_ret
      exact ⟨rfl, hb⟩

theorem enc_size (k i : Int) (c : ByteArray) (p : List Int) : (enc k i c p).size = 8 + c.size + p.length := by
  simp [enc, strOfNums_size, nums_length]; omega

def tailB (k i : Int) (c : ByteArray) (less : Int) (n : Nat) : ByteArray :=
  (enc k i c (padL n)).extract 0 ((8 + c.size + n : Nat) - 1 - pickI less (8 + c.size + n : Nat)).toNat

set_option maxRecDepth 100000 in
set_option maxHeartbeats 2000000 in
theorem tail_any (k i : Int) (c : ByteArray) (less : Int) (n : Nat) (w : World) (hk : 1 ≤ k ∧ k ≤ 6) (hi : 1 ≤ i ∧ i ≤ 65535) (hc : (c.size : Int) ≤ 200) (hn : n ≤ 7) (h0 : -9223372036854775808 ≤ less) (h1 : less ≤ 9223372036854775807) :
    Calls Try.prog 18 #[.agg #[.int .i64 k, .int .i64 i, .string c], .int .i64 less, .int .i64 n] w fun r w' => r = .returned (.string (tailB k i c less n)) ∧ Below w.heap.size w w' := by
  have hsz := enc_size k i c (padL n)
  rw [padL_length] at hsz
  have hT : tailB k i c less n = (enc k i c (padL n)).extract 0 ((8 + c.size + n : Nat) - 1 - pickI less (8 + c.size + n : Nat)).toNat := rfl
  generalize hTT : tailB k i c less n = T at *
  clear hTT
  have hbytes := fun wx => bytes_any k i c n wx hk hi hc hn
  generalize enc k i c (padL n) = E at *
  have hN : 8 + c.size + n ≤ 1000 := by omega
  have hN8 : 8 ≤ 8 + c.size + n := by omega
  generalize 8 + c.size + n = N at *
  have pb := pickI_bd less N (by omega)
  have cp := fun wx => pick_any less N wx h0 h1 (by omega) (by omega)
  generalize pickI less N = pl at *
  have CP : Hid _ := cp
  have CB : Hid _ := hbytes
  clear cp hbytes
  subst hsz
  have HT : Hid _ := hT
  clear hT
  have hs : ∀ wx : World, (Instr.slice 9 (.string E) none (some (.int .i64 ((E.size : Int) - 1 - pl))) none).run Try.prog wx = .ok (.string (E.extract 0 ((E.size : Int) - 1 - pl).toNat)) wx := by
    intro wx
    rw [run_slice_string_to_if wx 9 E .i64 ((E.size : Int) - 1 - pl) Try.underlying9, if_pos (by omega)]
  go_enter Try.func18, Try.ntmps18
  go_wp2_with fail
  refine (CB.out _).mono ?_
  rintro e w1 ⟨rfl, b1⟩
  have a1 : Below w.heap.size w w1 := ((Below.refl _ _).alloc (Nat.le_refl _) _).trans (b1.mono (by simp))
  clear b1
  go_wp2_with fail
  refine (CP.out _).mono ?_
  rintro e w2 ⟨rfl, rfl⟩
  go_wp2
  go_ret
  exact ⟨by rw [HT.out]; rfl, a1⟩

def wrongAt (j : Int) : ByteArray :=
  if j = 0 then ⟨#[0, 1, 0, 1, 0, 1, 0, 0]⟩ else if j = 1 then ⟨#[2, 5, 0, 1, 0, 0, 0, 0]⟩ else if j = 2 then ⟨#[1, 4, 0, 1, 0, 0, 0, 0]⟩ else if j = 3 then ⟨#[1, 7, 0, 1, 0, 0, 0, 0]⟩ else if j = 4 then ⟨#[1, 5, 0, 0, 0, 1, 0, 0]⟩ else
  if j = 5 then ⟨#[1, 5, 0, 1, 0, 201, 0, 0]⟩ else if j = 6 then ⟨#[1, 5, 0, 1, 1, 0, 0, 0]⟩ else if j = 7 then ⟨#[1, 5, 0, 1, 0, 1, 8, 0]⟩ else ⟨#[1, 5, 0, 1, 0, 1, 0, 1]⟩

theorem arr9 (w : World) (j : Int) (h0 : 0 ≤ j) (h9 : j < 9) (T : TypeId) : (w.alloc (.cells #[.string ⟨#[0, 1, 0, 1, 0, 1, 0, 0]⟩, .string ⟨#[2, 5, 0, 1, 0, 0, 0, 0]⟩, .string ⟨#[1, 4, 0, 1, 0, 0, 0, 0]⟩, .string ⟨#[1, 7, 0, 1, 0, 0, 0, 0]⟩, .string ⟨#[1, 5, 0, 0, 0, 1, 0, 0]⟩, .string ⟨#[1, 5, 0, 1, 0, 201, 0, 0]⟩, .string ⟨#[1, 5, 0, 1, 1, 0, 0, 0]⟩, .string ⟨#[1, 5, 0, 1, 0, 1, 8, 0]⟩, .string ⟨#[1, 5, 0, 1, 0, 1, 0, 1]⟩] T)).cell? ⟨w.heap.size, j.toNat, none⟩ = some (.string (wrongAt j)) := by
  rw [World.cell?_alloc_at _ _ _ _ rfl]
  have : j = 0 ∨ j = 1 ∨ j = 2 ∨ j = 3 ∨ j = 4 ∨ j = 5 ∨ j = 6 ∨ j = 7 ∨ j = 8 := by omega
  rcases this with rfl | rfl | rfl | rfl | rfl | rfl | rfl | rfl | rfl <;> rfl

set_option maxRecDepth 100000 in
set_option maxHeartbeats 2000000 in
theorem wrong_any (k : Int) (w : World) (h0 : -9223372036854775808 ≤ k) (h1 : k ≤ 9223372036854775807) :
    Calls Try.prog 19 #[.int .i64 k] w fun r w' => r = .returned (.string (wrongAt (pickI k 9))) ∧ Below w.heap.size w w' := by
  have pb := pickI_bd k 9 (by omega)
  have cp := fun wx => pick_any k 9 wx h0 h1 (by omega) (by omega)
  generalize pickI k 9 = j at *
  have CP : Hid _ := cp
  clear cp
  have hcell := arr9 w j pb.1 pb.2 90
  go_enter Try.func19, Try.ntmps19
  go_wp2_with fail
  refine (CP.out _).mono ?_
  rintro e w2 ⟨rfl, rfl⟩
  have hb : Below w.heap.size w (w.alloc (.cells #[.string ⟨#[0, 1, 0, 1, 0, 1, 0, 0]⟩, .string ⟨#[2, 5, 0, 1, 0, 0, 0, 0]⟩, .string ⟨#[1, 4, 0, 1, 0, 0, 0, 0]⟩, .string ⟨#[1, 7, 0, 1, 0, 0, 0, 0]⟩, .string ⟨#[1, 5, 0, 0, 0, 1, 0, 0]⟩, .string ⟨#[1, 5, 0, 1, 0, 201, 0, 0]⟩, .string ⟨#[1, 5, 0, 1, 1, 0, 0, 0]⟩, .string ⟨#[1, 5, 0, 1, 0, 1, 8, 0]⟩, .string ⟨#[1, 5, 0, 1, 0, 1, 0, 1]⟩] 90)) := (Below.refl _ _).alloc (Nat.le_refl _) _
  generalize w.alloc (.cells #[.string ⟨#[0, 1, 0, 1, 0, 1, 0, 0]⟩, .string ⟨#[2, 5, 0, 1, 0, 0, 0, 0]⟩, .string ⟨#[1, 4, 0, 1, 0, 0, 0, 0]⟩, .string ⟨#[1, 7, 0, 1, 0, 0, 0, 0]⟩, .string ⟨#[1, 5, 0, 0, 0, 1, 0, 0]⟩, .string ⟨#[1, 5, 0, 1, 0, 201, 0, 0]⟩, .string ⟨#[1, 5, 0, 1, 1, 0, 0, 0]⟩, .string ⟨#[1, 5, 0, 1, 0, 1, 8, 0]⟩, .string ⟨#[1, 5, 0, 1, 0, 1, 0, 1]⟩] 90) = W at *
  go_wp2
  go_ret
  exact ⟨rfl, hb⟩
end Go.Proofs.Ytlafkpaljibonaa
