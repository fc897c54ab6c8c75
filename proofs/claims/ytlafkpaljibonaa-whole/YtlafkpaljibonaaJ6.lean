import Derived.Test.YtlafkpaljibonaaJ5
import Derived.Test.YtlafkpaljibonaaJ3
namespace Go.Proofs.Ytlafkpaljibonaa
open Go.RowKit

theorem badT_eq (t : ByteArray) : badT t = (byt t 0 != 1 || !isKindB (byt t 1) || (256 * byt t 2 + byt t 3 == 0) || decide (200 < 256 * byt t 4 + byt t 5) || decide (7 < byt t 6) || byt t 7 != 0) := by
  have b2 := byt_bd t 2
  have b3 := byt_bd t 3
  rw [Bool.eq_iff_iff]
  cases hK : isKindB (byt t 1)
  · simp [badT, badB, allowedB, hKind, hK]
  · unfold badT badB allowedB hKind hId hLen hPad
    simp only [hK, Bool.or_eq_true, Bool.not_eq_true', Bool.and_eq_false_iff, decide_eq_true_eq, decide_eq_false_iff_not, bne_iff_ne, beq_iff_eq, Bool.true_eq_false, false_or, or_false, Bool.not_true, Bool.false_eq_true]
    omega

set_option maxRecDepth 100000 in
set_option maxHeartbeats 2000000 in
theorem refHead_raw (t : ByteArray) (w : World) (h : 8 ≤ (t.size : Int)) (hmax : (t.size : Int) ≤ 1000000000000) :
    Calls Try.prog 95 #[.string t] w fun r w' => r = .returned (.agg #[.int .i64 (byt t 1), .int .i64 (256 * byt t 2 + byt t 3), .int .i64 (256 * byt t 4 + byt t 5), .int .i64 (byt t 6), .bool (badT t)]) ∧ Below w.heap.size w w' := by
  have g0 : ∀ w, (Instr.index 9 (.string t) (.int .i64 0)).run Try.prog w = .ok (.int .u8 (byt t 0)) w := fun w => run_byt t 0 (by omega) w
  have b0 := byt_bd t 0
  have g1 : ∀ w, (Instr.index 9 (.string t) (.int .i64 1)).run Try.prog w = .ok (.int .u8 (byt t 1)) w := fun w => run_byt t 1 (by omega) w
  have b1 := byt_bd t 1
  have g2 : ∀ w, (Instr.index 9 (.string t) (.int .i64 2)).run Try.prog w = .ok (.int .u8 (byt t 2)) w := fun w => run_byt t 2 (by omega) w
  have b2 := byt_bd t 2
  have g3 : ∀ w, (Instr.index 9 (.string t) (.int .i64 3)).run Try.prog w = .ok (.int .u8 (byt t 3)) w := fun w => run_byt t 3 (by omega) w
  have b3 := byt_bd t 3
  have g4 : ∀ w, (Instr.index 9 (.string t) (.int .i64 4)).run Try.prog w = .ok (.int .u8 (byt t 4)) w := fun w => run_byt t 4 (by omega) w
  have b4 := byt_bd t 4
  have g5 : ∀ w, (Instr.index 9 (.string t) (.int .i64 5)).run Try.prog w = .ok (.int .u8 (byt t 5)) w := fun w => run_byt t 5 (by omega) w
  have b5 := byt_bd t 5
  have g6 : ∀ w, (Instr.index 9 (.string t) (.int .i64 6)).run Try.prog w = .ok (.int .u8 (byt t 6)) w := fun w => run_byt t 6 (by omega) w
  have b6 := byt_bd t 6
  have g7 : ∀ w, (Instr.index 9 (.string t) (.int .i64 7)).run Try.prog w = .ok (.int .u8 (byt t 7)) w := fun w => run_byt t 7 (by omega) w
  have b7 := byt_bd t 7
  go_enter Try.func95, Try.ntmps95
  go_wp2
  refine wp_region_noPanic ?_
  refine wp_region_held_drew (S := fun _ => True) (by kernel_rfl) trivial (fun hHeld => ?_)
  refine take_at (i := 0) (v := ?tv0) rfl (by kernel_rfl) (by kernel_rfl) (by kernel_rfl) (fun _ _ _ h => h) (by rfl) ?ty0 (by assumption) ?tr0
  case ty0 => (intro w hSw; go_simp; with_reducible rfl)
  simp only [Act.put, List.setIfInBounds_toArray, List.set_cons_zero, List.set_cons_succ]
  refine take_at (i := 1) (v := ?tv1) rfl (by kernel_rfl) (by kernel_rfl) (by kernel_rfl) (fun _ _ _ h => h) (by rfl) ?ty1 (by assumption) ?tr1
  case ty1 => (intro w hSw; go_simp; with_reducible rfl)
  simp only [Act.put, List.setIfInBounds_toArray, List.set_cons_zero, List.set_cons_succ]
  refine take_at (i := 2) (v := ?tv2) rfl (by kernel_rfl) (by kernel_rfl) (by kernel_rfl) (fun _ _ _ h => h) (by rfl) ?ty2 (by assumption) ?tr2
  case ty2 => (intro w hSw; go_simp; with_reducible rfl)
  simp only [Act.put, List.setIfInBounds_toArray, List.set_cons_zero, List.set_cons_succ]
  refine take_at (i := 3) (v := ?tv3) rfl (by kernel_rfl) (by kernel_rfl) (by kernel_rfl) (fun _ _ _ h => h) (by rfl) ?ty3 (by assumption) ?tr3
  case ty3 => (intro w hSw; go_simp; with_reducible rfl)
  simp only [Act.put, List.setIfInBounds_toArray, List.set_cons_zero, List.set_cons_succ]
  refine take_at (i := 4) (v := ?tv4) rfl (by kernel_rfl) (by kernel_rfl) (by kernel_rfl) (fun _ _ _ h => h) (by rfl) ?ty4 (by assumption) ?tr4
  case ty4 => (intro w hSw; go_simp; with_reducible rfl)
  simp only [Act.put, List.setIfInBounds_toArray, List.set_cons_zero, List.set_cons_succ]
  refine take_at (i := 5) (v := ?tv5) rfl (by kernel_rfl) (by kernel_rfl) (by kernel_rfl) (fun _ _ _ h => h) (by rfl) ?ty5 (by assumption) ?tr5
  case ty5 => (intro w hSw; go_simp; with_reducible rfl)
  simp only [Act.put, List.setIfInBounds_toArray, List.set_cons_zero, List.set_cons_succ]
  refine take_at (i := 6) (v := ?tv6) rfl (by kernel_rfl) (by kernel_rfl) (by kernel_rfl) (fun _ _ _ h => h) (by rfl) ?ty6 (by assumption) ?tr6
  case ty6 => (intro w hSw; go_simp; with_reducible rfl)
  simp only [Act.put, List.setIfInBounds_toArray, List.set_cons_zero, List.set_cons_succ]
  refine take_at (i := 7) (v := ?tv7) rfl (by kernel_rfl) (by kernel_rfl) (by kernel_rfl) (fun _ _ _ h => h) (by rfl) ?ty7 (by assumption) ?tr7
  case ty7 => (intro w hSw; go_simp; with_reducible rfl)
  simp only [Act.put, List.setIfInBounds_toArray, List.set_cons_zero, List.set_cons_succ]
  refine take_at (i := 8) (v := ?tv8) rfl (by kernel_rfl) (by kernel_rfl) (by kernel_rfl) (fun _ _ _ h => h) (by rfl) ?ty8 (by assumption) ?tr8
  case ty8 => (intro w hSw; go_simp; with_reducible rfl)
  simp only [Act.put, List.setIfInBounds_toArray, List.set_cons_zero, List.set_cons_succ]
  refine only_at (i := 9) rfl (by kernel_rfl) (by rfl) (fun K hK => ?_)
  go_simp
  refine hK.out _ _ trivial ?_
  clear hK K
  refine wpAnyH_done (by kernel_rfl) ?_ _
  refine NoPanic.normal ?_
  clear hHeld
  go_wp2
  refine wp_region_noPanic ?_
  refine wp_region_held_drew (S := fun _ => True) (by kernel_rfl) trivial (fun hHeld => ?_)
  refine take_at (i := 0) (v := ?uv0) rfl (by kernel_rfl) (by kernel_rfl) (by kernel_rfl) (fun _ _ _ h => h) (by rfl) ?uy0 (by assumption) ?ur0
  case uy0 => (intro w hSw; go_simp; with_reducible rfl)
  simp only [Act.put, List.setIfInBounds_toArray, List.set_cons_zero, List.set_cons_succ]
  refine take_at (i := 1) (v := ?uv1) rfl (by kernel_rfl) (by kernel_rfl) (by kernel_rfl) (fun _ _ _ h => h) (by rfl) ?uy1 (by assumption) ?ur1
  case uy1 => (intro w hSw; go_simp; with_reducible rfl)
  simp only [Act.put, List.setIfInBounds_toArray, List.set_cons_zero, List.set_cons_succ]
  refine take_at (i := 2) (v := ?uv2) rfl (by kernel_rfl) (by kernel_rfl) (by kernel_rfl) (fun _ _ _ h => h) (by rfl) ?uy2 (by assumption) ?ur2
  case uy2 => (intro w hSw; go_simp; with_reducible rfl)
  simp only [Act.put, List.setIfInBounds_toArray, List.set_cons_zero, List.set_cons_succ]
  refine take_at (i := 3) (v := ?uv3) rfl (by kernel_rfl) (by kernel_rfl) (by kernel_rfl) (fun _ _ _ h => h) (by rfl) ?uy3 (by assumption) ?ur3
  case uy3 => (intro w hSw; go_simp; with_reducible rfl)
  simp only [Act.put, List.setIfInBounds_toArray, List.set_cons_zero, List.set_cons_succ]
  refine take_at (i := 4) (v := ?uv4) rfl (by kernel_rfl) (by kernel_rfl) (by kernel_rfl) (fun _ _ _ h => h) (by rfl) ?uy4 (by assumption) ?ur4
  case uy4 => (intro w hSw; go_simp; with_reducible rfl)
  simp only [Act.put, List.setIfInBounds_toArray, List.set_cons_zero, List.set_cons_succ]
  refine take_at (i := 5) (v := ?uv5) rfl (by kernel_rfl) (by kernel_rfl) (by kernel_rfl) (fun _ _ _ h => h) (by rfl) ?uy5 (by assumption) ?ur5
  case uy5 => (intro w hSw; go_simp; with_reducible rfl)
  simp only [Act.put, List.setIfInBounds_toArray, List.set_cons_zero, List.set_cons_succ]
  refine take_at (i := 6) (v := ?uv6) rfl (by kernel_rfl) (by kernel_rfl) (by kernel_rfl) (fun _ _ _ h => h) (by rfl) ?uy6 (by assumption) ?ur6
  case uy6 => (intro w hSw; go_simp; with_reducible rfl)
  simp only [Act.put, List.setIfInBounds_toArray, List.set_cons_zero, List.set_cons_succ]
  refine take_at (i := 7) (v := ?uv7) rfl (by kernel_rfl) (by kernel_rfl) (by kernel_rfl) (fun _ _ _ h => h) (by rfl) ?uy7 (by assumption) ?ur7
  case uy7 => (intro w hSw; go_simp; with_reducible rfl)
  simp only [Act.put, List.setIfInBounds_toArray, List.set_cons_zero, List.set_cons_succ]
  refine take_at (i := 8) (v := ?uv8) rfl (by kernel_rfl) (by kernel_rfl) (by kernel_rfl) (fun _ _ _ h => h) (by rfl) ?uy8 (by assumption) ?ur8
  case uy8 => (intro w hSw; go_simp; with_reducible rfl)
  simp only [Act.put, List.setIfInBounds_toArray, List.set_cons_zero, List.set_cons_succ]
  refine only_at (i := 9) rfl (by kernel_rfl) (by rfl) (fun K hK => ?_)
  go_simp
  refine hK.out _ _ trivial ?_
  clear hK K
  refine wpAnyH_done (by kernel_rfl) ?_ _
  refine NoPanic.normal ?_
  clear hHeld
  go_wp2_with (go_at_call 45; refine (refIsKind_any _ _).mono ?_; rintro e w' ⟨rfl, rfl⟩)
  all_goals
    refine bodyPost_ret (v := .agg #[.int .i64 (byt t 1), .int .i64 (256 * byt t 2 + byt t 3), .int .i64 (256 * byt t 4 + byt t 5), .int .i64 (byt t 6), .bool (badT t)]) (by rw [badT_eq]; simp [results, Try.results95, go_sem, *]) rfl ⟨rfl, ?_⟩
    exact ((((Below.refl _ _).alloc (Nat.le_refl _) _).alloc (by simp) _).drew).drew
end Go.Proofs.Ytlafkpaljibonaa

namespace Go.Proofs.Ytlafkpaljibonaa
open Go.RowKit

theorem refHead_any (t : ByteArray) (w : World) (h : 8 ≤ (t.size : Int)) (hmax : (t.size : Int) ≤ 1000000000000) :
    Calls Try.prog 95 #[.string t] w fun r w' => r = .returned (.agg #[.int .i64 (hKind t), .int .i64 (hId t), .int .i64 (hLen t), .int .i64 (hPad t), .bool (badT t)]) ∧ Below w.heap.size w w' := by
  have e1 : 256 * byt t 2 + byt t 3 = hId t := by unfold hId; omega
  have e2 : 256 * byt t 4 + byt t 5 = hLen t := by unfold hLen; omega
  have := refHead_raw t w h hmax
  rw [e1, e2] at this
  exact this

def wrongB (k n : Int) : Bool := if k = 1 then n != 1 else if k = 2 then n != 0 else k != 5

set_option maxRecDepth 100000 in
set_option maxHeartbeats 400000 in
theorem refWrong_any (k i n p : Int) (b : Bool) (w : World) :
    Calls Try.prog 96 #[.agg #[.int .i64 k, .int .i64 i, .int .i64 n, .int .i64 p, .bool b]] w fun r w' => r = .returned (.bool (wrongB k n)) ∧ Below w.heap.size w w' := by
  unfold wrongB
  by_cases h1 : k = 1
  · subst h1
    go_enter Try.func96, Try.ntmps96
    go_wp2
    go_ret
    exact ⟨rfl, (Below.refl _ _).alloc (Nat.le_refl _) _⟩
  · by_cases h2 : k = 2
    · subst h2
      go_enter Try.func96, Try.ntmps96
      go_wp2
      go_ret
      exact ⟨rfl, (Below.refl _ _).alloc (Nat.le_refl _) _⟩
    · have g1 : (k == 1) = false := by simpa using h1
      have g2 : (k == 2) = false := by simpa using h2
      rw [if_neg h1, if_neg h2]
      clear h1 h2
      go_enter Try.func96, Try.ntmps96
      go_wp2
      go_ret
      exact ⟨rfl, (Below.refl _ _).alloc (Nat.le_refl _) _⟩

/-- A head that may not come from a client. -/
def wrongT (t : ByteArray) : Bool := wrongB (hKind t) (hLen t)
def stopT (c : Bool) (t : ByteArray) : Bool := badT t || (c && wrongT t)
def rcode (c : Bool) (t : ByteArray) : Nat :=
  if (t.size : Int) < 8 then 0 else if stopT c t then 1 else if (t.size : Int) < 8 + hLen t + hPad t then 0 else 2

theorem rcode_false (t : ByteArray) : rcode false t = code t := by simp [rcode, code, stopT]

def rdec (c : Bool) : Nat → ByteArray → Nat → List Rec × Nat × Bool
  | 0, _, i => ([], i, false)
  | f + 1, s, i =>
    if rcode c (left s i) = 0 then ([], i, false)
    else if rcode c (left s i) = 1 then ([], i, true)
    else (recT (left s i) :: (rdec c f s (i + sizeT (left s i))).1, (rdec c f s (i + sizeT (left s i))).2)

theorem rcode_two {c : Bool} {t : ByteArray} (h : rcode c t = 2) : 8 ≤ sizeT t ∧ sizeT t ≤ t.size ∧ stopT c t = false ∧ 8 + hLen t + hPad t ≤ (t.size : Int) ∧ 8 ≤ (t.size : Int) := by
  have hd := hd_bd t
  unfold rcode at h
  split at h
  · cases h
  · split at h
    · cases h
    · split at h
      · cases h
      · rename_i h1 h2 h3
        refine ⟨by unfold sizeT; omega, by unfold sizeT; omega, by simpa using h2, by omega, by omega⟩

theorem rdec_zero {c : Bool} {f : Nat} {s : ByteArray} {i : Nat} (h : rcode c (left s i) = 0) : rdec c f s i = ([], i, false) := by
  cases f with
  | zero => rfl
  | succ f => simp [rdec, h]
theorem rdec_one {c : Bool} {f : Nat} {s : ByteArray} {i : Nat} (h : rcode c (left s i) = 1) : rdec c (f + 1) s i = ([], i, true) := by
  simp [rdec, h]
theorem rdec_two {c : Bool} {f : Nat} {s : ByteArray} {i : Nat} (h : rcode c (left s i) = 2) : rdec c (f + 1) s i = (recT (left s i) :: (rdec c f s (i + sizeT (left s i))).1, (rdec c f s (i + sizeT (left s i))).2) := by
  simp [rdec, h]

def rdL (c : Bool) (s : ByteArray) : List Rec := (rdec c (s.size + 1) s 0).1
def rdN (c : Bool) (s : ByteArray) : Nat := (rdec c (s.size + 1) s 0).2.1
def rdB (c : Bool) (s : ByteArray) : Bool := (rdec c (s.size + 1) s 0).2.2

theorem rdec_false (f : Nat) (s : ByteArray) : ∀ i, (rdec false f s i).1 = (dec f s i).1 ∧ (rdec false f s i).2.1 = (dec f s i).2.1 ∧ (if (rdec false f s i).2.2 then (7 : Int) else 0) = (dec f s i).2.2 := by
  induction f with
  | zero => intro i; simp [rdec, dec]
  | succ f ih =>
    intro i
    simp only [rdec, dec, rcode_false]
    split
    · simp
    · split
      · simp
      · have := ih (i + sizeT (left s i))
        exact ⟨by rw [this.1], this.2.1, this.2.2⟩

theorem wrap_ok {n : Int} (h0 : -9223372036854775808 ≤ n) (h1 : n ≤ 9223372036854775807) : IntKind.i64.wrap n = n := by rw [IntKind.wrap_i64]; omega

theorem slice_rec (s : ByteArray) (k : Nat) (h : (k : Int) + 8 + hLen (left s k) + hPad (left s k) ≤ (s.size : Int)) :
    s.extract ((k : Int) + 8).toNat ((k : Int) + 8 + hLen (left s k)).toNat = (recT (left s k)).2.2 := by
  have hd := hd_bd (left s k)
  unfold recT
  show _ = (left s k).extract 8 (8 + hLen (left s k)).toNat
  generalize hLen (left s k) = ln at *
  unfold left
  rw [ByteArray.extract_extract]
  have e1 : ((k : Int) + 8).toNat = k + 8 := by omega
  have e2 : ((k : Int) + 8 + ln).toNat = min (k + (8 + ln).toNat) s.size := by omega
  rw [e1, e2]

set_option maxRecDepth 100000 in
set_option maxHeartbeats 2000000 in
theorem refRead_any (s : ByteArray) (c : Bool) (w : World) (hmax : (s.size : Int) ≤ 1000000000000) :
    Calls Try.prog 71 #[.string s, .bool c] w fun r w' => ∃ v, r = .returned (.tuple #[v, .int .i64 (rdN c s), .bool (rdB c s)]) ∧ w'.ownsRow w.heap.size 23 3 v (rdL c s).length (rowOf (rdL c s)) ∧ Below w.heap.size w w' := by
  obtain ⟨i0, hi, hz0, hz1, hz2⟩ := info_parts info23
  go_enter Try.func71, Try.ntmps71
  go_wp2
  go_loopw [7, 8] (fun v i w' => ∃ (acc : List Rec) (k f : Nat), i = .int .i64 k ∧ k ≤ s.size ∧ acc.length * 8 ≤ k ∧ s.size - k < f ∧ rdL c s = acc ++ (rdec c f s k).1 ∧ (rdN c s, rdB c s) = (rdec c f s k).2 ∧ w'.ownsRow w.heap.size 23 3 v acc.length (rowOf acc) ∧ Below w.heap.size w w') (fun _ i _ => s.size - (intOf i).toNat)
  case atStart => exact ⟨[], 0, s.size + 1, rfl, Nat.zero_le _, by simp, by omega, rfl, rfl, World.ownsRow_nil _ _ _ _, Below.refl _ _⟩
  case round =>
    obtain ⟨acc, k, f, rfl, hk, hlen, hf, hL, hN, hown, hbel⟩ := hrel
    have HL : Hid _ := hL
    have HN : Hid _ := hN
    clear hL hN
    have hbase := hbel.size
    by_cases hlt : 8 ≤ s.size - k
    · have hls := left_size s k
      have hd := hd_bd (left s k)
      have hge : (8 : Int) ≤ (s.size : Int) - (k : Int) := by omega
      obtain ⟨f', rfl⟩ : ∃ f', f = f' + 1 := ⟨f - 1, by omega⟩
      go_wp2_with fail
      refine (refHead_any (s.extract k s.size) _ (by rw [ByteArray.size_extract]; omega) (by rw [ByteArray.size_extract]; omega)).mono ?_
      rw [show s.extract k s.size = left s k from rfl]
      rintro e w1 ⟨rfl, hb⟩
      have hg : wr.grownBy w1 none := ⟨hb.os, hb.tape, hb.output, hb.size, fun b hb' _ => hb.block b hb'⟩
      have hown1 := hown.kept hg (by cases hv : u7.ownBlock <;> simp)
      have hsz1 := hb.size
      have hbel1 : Below w.heap.size w w1 := hbel.trans (hb.mono hbase)
      clear hg hown hbel hb
      go_wp2_with fail
      refine (refWrong_any _ _ _ _ _ _).mono ?_
      rintro e w2 ⟨rfl, hb2⟩
      obtain ⟨e0, -⟩ := keep_new hb2 0
      obtain ⟨e1, -⟩ := keep_new hb2 1
      obtain ⟨e2, -⟩ := keep_new hb2 2
      obtain ⟨e3, -⟩ := keep_new hb2 3
      obtain ⟨e4, -⟩ := keep_new hb2 4
      simp only [List.getElem?_toArray, List.getElem?_cons_zero, List.getElem?_cons_succ] at e0 e1 e2 e3 e4
      have hg2 : (w1.alloc (.cells #[.int .i64 (hKind (left s k)), .int .i64 (hId (left s k)), .int .i64 (hLen (left s k)), .int .i64 (hPad (left s k)), .bool (badT (left s k))] 131)).grownBy w2 none := ⟨hb2.os, hb2.tape, hb2.output, hb2.size, fun b hb' _ => hb2.block b hb'⟩
      have hown2 := (hown1.alloc _).kept hg2 (by cases hv : u7.ownBlock <;> simp)
      have hsz2 : w1.heap.size < w2.heap.size := by have := hb2.size; simp at this; omega
      have hbel2 : Below w.heap.size w w2 := (hbel1.alloc (by omega) _).trans (hb2.mono (by simp; omega))
      have h7 : ∀ b, u7.ownBlock = some b → w.heap.size ≤ b ∧ b < w1.heap.size := hown1.lt
      have h7' : some w1.heap.size ≠ u7.ownBlock := fun e => by have := h7 _ e.symm; omega
      clear hg2 hown1 hbel1 hb2
      by_cases hstop : stopT c (left s k) = true
      · have hd1 := rdec_one (f := f') (show rcode c (left s k) = 1 from by unfold rcode; rw [if_neg (by rw [hls]; omega), if_pos hstop])
        have hL := HL.out
        have hN := HN.out
        rw [hd1] at hL hN
        simp only [List.append_nil, Prod.mk.injEq] at hL hN
        have HL2 : Hid _ := hL
        have HN2 : Hid _ := hN
        clear hL hN hd1 HL HN hls
        unfold stopT wrongT at hstop
        have hcase : badT (left s k) = true ∨ (badT (left s k) = false ∧ c = true ∧ wrongB (hKind (left s k)) (hLen (left s k)) = true) := by
          cases hbt : badT (left s k) <;> cases c <;> simp_all
        clear hstop
        rcases hcase with hbt | ⟨hbt, rfl, hwt⟩
        · rw [hbt] at e4
          go_wp2
          go_ret3
          refine ⟨u7, by rw [HN2.out.1, HN2.out.2]; rfl, ?_, hbel2⟩
          rw [HL2.out]; exact hown2
        · rw [hbt] at e4
          rw [hwt]
          go_wp2
          go_ret3
          refine ⟨u7, by rw [HN2.out.1, HN2.out.2]; rfl, ?_, hbel2⟩
          rw [HL2.out]; exact hown2
      · have hstop' : stopT c (left s k) = false := by simpa using hstop
        clear hstop
        have hcase : badT (left s k) = false ∧ (c = false ∨ wrongB (hKind (left s k)) (hLen (left s k)) = false) := by
          unfold stopT wrongT at hstop'
          cases hbt : badT (left s k) <;> cases c <;> simp_all
        obtain ⟨hbt, hcw⟩ := hcase
        rw [hbt] at e4
        clear hbt
        by_cases hend : s.size - k < 8 + hLen (left s k) + hPad (left s k)
        · have hd1 := rdec_zero (f := f' + 1) (show rcode c (left s k) = 0 from by unfold rcode; rw [if_neg (by rw [hls]; omega), hstop', if_neg (by simp), if_pos (by rw [hls]; omega)])
          have hL := HL.out
          have hN := HN.out
          rw [hd1] at hL hN
          simp only [List.append_nil, Prod.mk.injEq] at hL hN
          have HL2 : Hid _ := hL
          have HN2 : Hid _ := hN
          clear hL hN hd1 HL HN hls hstop'
          have hend' : (s.size : Int) < (k : Int) + 8 + hLen (left s k) + hPad (left s k) := by omega
          rcases hcw with rfl | hcw
          · go_wp2
            go_ret3
            refine ⟨u7, by rw [HN2.out.1, HN2.out.2]; rfl, ?_, hbel2⟩
            rw [HL2.out]; exact hown2
          · rw [hcw]
            cases c
            all_goals
              go_wp2
              go_ret3
              refine ⟨u7, by rw [HN2.out.1, HN2.out.2]; rfl, ?_, hbel2⟩
              rw [HL2.out]; exact hown2
        · have hd1 := rdec_two (f := f') (show rcode c (left s k) = 2 from by unfold rcode; rw [if_neg (by rw [hls]; omega), hstop', if_neg (by simp), if_neg (by rw [hls]; omega)])
          have hL := HL.out
          have hN := HN.out
          rw [hd1] at hL hN
          have HL2 : Hid _ := hL
          have HN2 : Hid _ := hN
          clear hL hN hd1 HL HN hls hstop'
          have hend' : (k : Int) + 8 + hLen (left s k) + hPad (left s k) ≤ (s.size : Int) := by omega
          have hs : ∀ wx : World, (Instr.slice 9 (.string s) (some (.int .i64 ((k : Int) + 8))) (some (.int .i64 ((k : Int) + 8 + hLen (left s k)))) none).run Try.prog wx = .ok (.string (recT (left s k)).2.2) wx := by
            intro wx
            rw [run_slice_string (P := Try.prog) wx 9 s .i64 .i64 ((k : Int) + 8) ((k : Int) + 8 + hLen (left s k)) Try.underlying9 (by omega) (by omega) (by omega), slice_rec s k hend']
          have hcell : w2.cell? ⟨w1.heap.size, 0, none⟩ = some (.int .i64 (recT (left s k)).1) ∧ w2.cell? ⟨w1.heap.size, 1, none⟩ = some (.int .i64 (recT (left s k)).2.1) := ⟨e0, e1⟩
          obtain ⟨q0, q1⟩ := hcell
          clear e0 e1
          have hzk : ((sizeT (left s k) : Nat) : Int) = 8 + hLen (left s k) + hPad (left s k) := by unfold sizeT; omega
          have HZ : Hid _ := hzk
          clear hzk
          generalize hr : recT (left s k) = r at hs q0 q1
          have HR : Hid _ := hr
          clear hr
          generalize hln : hLen (left s k) = ln at *
          generalize hpd : hPad (left s k) = pd at *
          clear hln hpd
          have hc2 : c = false ∨ (c = true ∧ wrongB (hKind (left s k)) ln = false) := by
            cases c
            · exact .inl rfl
            · exact .inr ⟨rfl, by simpa using hcw⟩
          clear hcw
          generalize wrongB (hKind (left s k)) ln = wb at *
          have hw1 : IntKind.i64.wrap ((k : Int) + 8) = (k : Int) + 8 := wrap_ok (by omega) (by omega)
          have hw2 : IntKind.i64.wrap ((k : Int) + 8 + ln) = (k : Int) + 8 + ln := wrap_ok (by omega) (by omega)
          rcases hc2 with rfl | ⟨rfl, rfl⟩
          all_goals
            go_wp2
            refine wp_region_noPanic ?_
            refine wp_region_held_drew (S := fun w' => w'.cell? ⟨w1.heap.size, 0, none⟩ = some (.int .i64 r.1) ∧ w'.cell? ⟨w1.heap.size, 1, none⟩ = some (.int .i64 r.2.1) ∧ w'.cell? ⟨w1.heap.size, 2, none⟩ = some (.int .i64 ln)) (by kernel_rfl) (by simp [q0, q1, e2]) (fun hHeld => ?_)
            refine take_at (i := 0) (v := ?_) rfl (by kernel_rfl) (by kernel_rfl) (by kernel_rfl) (fun _ _ _ h => h) (by rfl) ?_ (by assumption) ?_
            rotate_left
            · (intro w hSw; go_simp; with_reducible rfl)
            simp only [Act.put, List.setIfInBounds_toArray, List.set_cons_zero, List.set_cons_succ]
            refine take_at (i := 1) (v := ?_) rfl (by kernel_rfl) (by kernel_rfl) (by kernel_rfl) (fun _ _ _ h => h) (by rfl) ?_ (by assumption) ?_
            rotate_left
            · (intro w hSw; go_simp; with_reducible rfl)
            simp only [Act.put, List.setIfInBounds_toArray, List.set_cons_zero, List.set_cons_succ]
            refine take_at (i := 2) (v := ?_) rfl (by kernel_rfl) (by kernel_rfl) (by kernel_rfl) (fun _ _ _ h => h) (by rfl) ?_ (by assumption) ?_
            rotate_left
            · (intro w hSw; go_simp; with_reducible rfl)
            simp only [Act.put, List.setIfInBounds_toArray, List.set_cons_zero, List.set_cons_succ]
            refine take_at (i := 3) (v := ?_) rfl (by kernel_rfl) (by kernel_rfl) (by kernel_rfl) (fun _ _ _ h => h) (by rfl) ?_ (by assumption) ?_
            rotate_left
            · (intro w hSw; go_simp; with_reducible rfl)
            simp only [Act.put, List.setIfInBounds_toArray, List.set_cons_zero, List.set_cons_succ]
            refine take_at (i := 4) (v := ?_) rfl (by kernel_rfl) (by kernel_rfl) (by kernel_rfl) (fun _ _ _ h => h) (by rfl) ?_ (by assumption) ?_
            rotate_left
            · (intro w hSw; go_simp; with_reducible rfl)
            simp only [Act.put, List.setIfInBounds_toArray, List.set_cons_zero, List.set_cons_succ]
            refine take_at (i := 5) (v := ?_) rfl (by kernel_rfl) (by kernel_rfl) (by kernel_rfl) (fun _ _ _ h => h) (by rfl) ?_ (by assumption) ?_
            rotate_left
            · (intro w hSw; go_simp; with_reducible rfl)
            simp only [Act.put, List.setIfInBounds_toArray, List.set_cons_zero, List.set_cons_succ]
            refine take_at (i := 6) (v := ?_) rfl (by kernel_rfl) (by kernel_rfl) (by kernel_rfl) (fun _ _ _ h => h) (by rfl) ?_ (by assumption) ?_
            rotate_left
            · (intro w hSw; go_simp; with_reducible rfl)
            simp only [Act.put, List.setIfInBounds_toArray, List.set_cons_zero, List.set_cons_succ]
            refine take_at (i := 7) (v := ?_) rfl (by kernel_rfl) (by kernel_rfl) (by kernel_rfl) (fun _ _ _ h => h) (by rfl) ?_ (by assumption) ?_
            rotate_left
            · (intro w hSw; go_simp; with_reducible rfl)
            simp only [Act.put, List.setIfInBounds_toArray, List.set_cons_zero, List.set_cons_succ]
            refine take_at (i := 8) (v := ?_) rfl (by kernel_rfl) (by kernel_rfl) (by kernel_rfl) (fun _ _ _ h => h) (by rfl) ?_ (by assumption) ?_
            rotate_left
            · (intro w hSw; go_simp; with_reducible rfl)
            simp only [Act.put, List.setIfInBounds_toArray, List.set_cons_zero, List.set_cons_succ]
            refine take_at (i := 9) (v := ?_) rfl (by kernel_rfl) (by kernel_rfl) (by kernel_rfl) (fun _ _ _ h => h) (by rfl) ?_ (by assumption) ?_
            rotate_left
            · (intro w hSw; go_simp; with_reducible rfl)
            simp only [Act.put, List.setIfInBounds_toArray, List.set_cons_zero, List.set_cons_succ]
            refine take_at (i := 10) (v := ?_) rfl (by kernel_rfl) (by kernel_rfl) (by kernel_rfl) (fun _ _ _ h => h) (by rfl) ?_ (by assumption) ?_
            rotate_left
            · (intro w hSw; go_simp; with_reducible rfl)
            simp only [Act.put, List.setIfInBounds_toArray, List.set_cons_zero, List.set_cons_succ]
            refine take_at (i := 11) (v := ?_) rfl (by kernel_rfl) (by kernel_rfl) (by kernel_rfl) (fun _ _ _ h => h) (by rfl) ?_ (by assumption) ?_
            rotate_left
            · (intro w hSw; go_simp; with_reducible rfl)
            simp only [Act.put, List.setIfInBounds_toArray, List.set_cons_zero, List.set_cons_succ]
            refine take_at (i := 12) (v := ?_) rfl (by kernel_rfl) (by kernel_rfl) (by kernel_rfl) (fun _ _ _ h => h) (by rfl) ?_ (by assumption) ?_
            rotate_left
            · (intro w hSw; go_simp; with_reducible rfl)
            simp only [Act.put, List.setIfInBounds_toArray, List.set_cons_zero, List.set_cons_succ]
            refine take_at (i := 13) (v := ?_) rfl (by kernel_rfl) (by kernel_rfl) (by kernel_rfl) (fun _ _ _ h => h) (by rfl) ?_ (by assumption) ?_
            rotate_left
            · (intro w hSw; go_simp; with_reducible rfl)
            simp only [Act.put, List.setIfInBounds_toArray, List.set_cons_zero, List.set_cons_succ]
            refine take_at (i := 14) (v := ?_) rfl (by kernel_rfl) (by kernel_rfl) (by kernel_rfl) (fun _ _ _ h => h) (by rfl) ?_ (by assumption) ?_
            rotate_left
            · (intro w hSw; go_simp; with_reducible rfl)
            simp only [Act.put, List.setIfInBounds_toArray, List.set_cons_zero, List.set_cons_succ]
            refine only_at (i := 15) rfl (by kernel_rfl) (by rfl) (fun K hK => ?_)
            go_simp
            refine hK.out _ _ (by simp [q0, q1, e2, World.cell?_alloc_some]) ?_
            clear hK K hHeld
            refine only_at (i := 16) rfl (by kernel_rfl) (by rfl) (fun K hK => ?_)
            refine wp_append_own _ _ _ 32 rfl w.heap.size 23 i0 (.agg #[.int .i64 0, .int .i64 0, .string ⟨#[]⟩]) 3 32 Try.underlying32 hi hz0 hz1 hz2 rfl (by omega) u7 acc.length (rowOf acc) rfl (hown2.alloc _) ⟨w2.heap.size, 0, none⟩ 1 1 (rcells r) rfl rfl ?_ (one_rec r) (by unfold maxLen; omega) (by omega) (by simp; omega) ?_
            · exact news_rec w2 _ rfl r _
            intro v' w3 hown3 hgrow _
            have hq : ∀ (o : Nat) (x : Value), w2.cell? ⟨w1.heap.size, o, none⟩ = some x → w3.cell? ⟨w1.heap.size, o, none⟩ = some x := fun o x hx =>
              hgrow.cell (by simp [hx, World.cell?_alloc_some]) h7'
            refine hK.out _ _ ⟨hq _ _ q0, hq _ _ q1, hq _ _ e2⟩ ?_
            clear hK K
            simp only [Act.put, List.setIfInBounds_toArray, List.set_cons_zero, List.set_cons_succ]
            refine only_at (i := 17) rfl (by kernel_rfl) (by rfl) (fun K hK => ?_)
            go_simp
            refine hK.out _ _ ⟨hq _ _ q0, hq _ _ q1, hq _ _ e2⟩ ?_
            clear hK K hq
            refine wpAnyH_done (by kernel_rfl) ?_ _
            refine NoPanic.normal ?_
            clear e2 e3 e4 q0 q1 hs hw1 hw2
            go_wp2
            have hsz3 : w2.heap.size < w3.heap.size := by have := hgrow.size; simp at this; omega
            have hL := HL2.out
            have hN := HN2.out
            have hZ := HZ.out
            rw [HR.out] at hL
            refine ⟨⟨acc ++ [r], k + sizeT (left s k), f', by rw [show (k : Int) + 8 + ln + pd = ((k + sizeT (left s k) : Nat) : Int) from by omega], by omega, by simp; omega, by omega, by simpa using hL, hN, ?_, ?_⟩, by simp [intOf]; omega⟩
            · rw [rowOf_append, rowOf_one]; simpa using hown3
            · refine (hbel2.alloc (by omega) _).drew.grown hgrow (by simp; omega) ?_
              intro b hbk
              exact (h7 b hbk).1
    · go_wp2
      go_ret3
      have hd := rdec_zero (f := f) (show rcode c (left s k) = 0 from by unfold rcode; rw [if_pos]; rw [left_size]; omega)
      have hL := HL.out
      have hN := HN.out
      rw [hd] at hL hN
      simp only [List.append_nil, Prod.mk.injEq] at hL hN
      refine ⟨u7, by rw [hN.1, hN.2]; rfl, ?_, hbel⟩
      rw [hL]; exact hown

theorem refDecode_any (s : ByteArray) (w : World) (hmax : (s.size : Int) ≤ 1000000000000) :
    Calls Try.prog 46 #[.string s] w fun r w' => ∃ v, r = .returned (.tuple #[v, .int .i64 (decN s), .int .i64 (decE s)]) ∧ w'.ownsRow w.heap.size 23 3 v (decL s).length (rowOf (decL s)) ∧ Below w.heap.size w w' := by
  obtain ⟨h1, h2, h3⟩ := rdec_false (s.size + 1) s 0
  have e1 : rdL false s = decL s := h1
  have e2 : rdN false s = decN s := h2
  have e3 : (if rdB false s then (7 : Int) else 0) = decE s := h3
  rw [← e1, ← e2, ← e3]
  clear h1 h2 h3 e1 e2 e3
  cases hB : rdB false s
  all_goals
    go_enter Try.func46, Try.ntmps46
    go_wp2_with fail
    refine (refRead_any s false _ hmax).mono ?_
    rintro e w' ⟨v, rfl, hown, hb⟩
    rw [hB]
    go_wp2
    go_ret3
    exact ⟨v, rfl, hown, hb⟩

end Go.Proofs.Ytlafkpaljibonaa

namespace Go.Proofs.Ytlafkpaljibonaa
open Go.RowKit

set_option maxRecDepth 100000 in
set_option maxHeartbeats 1000000 in
theorem mayCome_any (mk k i n p z : Int) (w : World) :
    Calls Try.prog 103 #[.agg #[.int .i64 mk, .int .i64 k, .int .i64 i, .int .i64 n, .int .i64 p, .int .i64 z]] w fun r w' => r = .returned (.bool (!wrongB k n)) ∧ Below w.heap.size w w' := by
  unfold wrongB
  by_cases h1 : k = 1
  · subst h1
    go_enter Try.func103, Try.ntmps103
    go_wp2
    go_ret
    exact ⟨by simp [bne], (Below.refl _ _).alloc (Nat.le_refl _) _⟩
  · by_cases h2 : k = 2
    · subst h2
      go_enter Try.func103, Try.ntmps103
      go_wp2
      go_ret
      exact ⟨by simp [bne], (Below.refl _ _).alloc (Nat.le_refl _) _⟩
    · rw [if_neg h1, if_neg h2]
      by_cases h5 : k = 5
      · subst h5
        go_enter Try.func103, Try.ntmps103
        go_wp2
        go_ret
        exact ⟨by simp, (Below.refl _ _).alloc (Nat.le_refl _) _⟩
      · go_enter Try.func103, Try.ntmps103
        go_wp2
        go_ret
        exact ⟨by simp [h5], (Below.refl _ _).alloc (Nat.le_refl _) _⟩

/-- 'FirstRequest' in one row. -/
def reqV (t : ByteArray) : Value :=
  if rcode true t = 2 then .tuple #[.agg #[.int .i64 (recT t).1, .int .i64 (recT t).2.1, .string (recT t).2.2], .int .i64 (sizeT t), .int .i64 0]
  else if rcode true t = 1 then .tuple #[nilRec, .int .i64 0, .int .i64 7] else .tuple #[nilRec, .int .i64 0, .int .i64 0]

theorem reqV_first {t : ByteArray} (h : wrongT t = false ∨ (t.size : Int) < 8) : reqV t = firstV t := by
  have : rcode true t = code t := by
    unfold rcode code stopT
    rcases h with h | h
    · simp [h]
    · simp [h]
  simp only [reqV, firstV, this]

theorem firstV_agg (t : ByteArray) : ∃ k i c n e, firstV t = .tuple #[.agg #[.int .i64 k, .int .i64 i, .string c], .int .i64 n, .int .i64 e] := by
  unfold firstV nilRec
  split
  · exact ⟨_, _, _, _, _, rfl⟩
  · split
    · exact ⟨_, _, _, _, _, rfl⟩
    · exact ⟨_, _, _, _, _, rfl⟩

set_option maxRecDepth 100000 in
set_option maxHeartbeats 2000000 in
theorem firstRequest_any (t : ByteArray) (w : World) (hmax : (t.size : Int) ≤ 1000000000000) :
    Calls Try.prog 82 #[.string t] w fun r w' => r = .returned (reqV t) ∧ Below w.heap.size w w' := by
  by_cases hs : (t.size : Int) < 8
  · rw [reqV_first (.inr hs)]
    have kf : Hid (∀ w, Calls Try.prog 72 #[.string t] w fun r w' => r = .returned (firstV t) ∧ Below w.heap.size w w') := fun w => first_any t w hmax
    obtain ⟨k, i, c, n, e, hV⟩ := firstV_agg t
    rw [hV] at kf ⊢
    go_enter Try.func82, Try.ntmps82
    go_wp2_with fail
    refine (readHead_no t _ hs).mono ?_
    rintro e1 w1 ⟨rfl, hb1⟩
    have j0 := (Blk.made w 23 [.int .i64 0, .int .i64 0, .string ⟨#[]⟩]).below hb1
    have hbw : Below w.heap.size w w1 := ((Below.refl _ _).alloc (Nat.le_refl _) _).trans (hb1.mono (by simp))
    clear hb1
    go_wp2_with fail
    refine (kf.out _).mono ?_
    rintro e2 w2 ⟨rfl, hb2⟩
    have hb2' : Below w1.heap.size w1 w2 := ((Below.refl _ _).alloc (Nat.le_refl _) _).trans (hb2.mono (by simp))
    have j2 := j0.below hb2'
    have hbw2 := hbw.trans (hb2'.mono hbw.size)
    clear j0 hb2 hb2' hbw
    have a0 := j2.cell (k := 0) (u := .int .i64 0) rfl
    have a1 := j2.cell (k := 1) (u := .int .i64 0) rfl
    have a2 := j2.cell (k := 2) (u := .string ⟨#[]⟩) rfl
    have fz := j2.frozen
    go_wp2
    refine bodyPost_ret (v := .tuple #[.agg #[.int .i64 k, .int .i64 i, .string c], .int .i64 n, .int .i64 e]) (by simp [results, Try.results82, go_sem, a0, a1, a2]) rfl ⟨rfl, ?_⟩
    repeat (first | refine Below.setCell ?_ (by simp) _ | exact hbw2)
  · have hs8 : 8 ≤ (t.size : Int) := by omega
    have km : Hid (∀ w, Calls Try.prog 103 #[.agg #[.int .i64 (byt t 0), .int .i64 (hKind t), .int .i64 (hId t), .int .i64 (hLen t), .int .i64 (hPad t), .int .i64 (byt t 7)]] w fun r w' => r = .returned (.bool (!wrongT t)) ∧ Below w.heap.size w w') := fun w => mayCome_any _ _ _ _ _ _ w
    have kh : Hid (∀ w, Calls Try.prog 97 #[.string t] w fun r w' => r = .returned (.tuple #[.agg #[.int .i64 (byt t 0), .int .i64 (hKind t), .int .i64 (hId t), .int .i64 (hLen t), .int .i64 (hPad t), .int .i64 (byt t 7)], .bool true]) ∧ Below w.heap.size w w') := fun w => readHead_yes' t w hs8 hmax
    generalize byt t 0 = h0 at *
    generalize hKind t = h1 at *
    generalize hId t = h2 at *
    generalize hLen t = h3 at *
    generalize hPad t = h4 at *
    generalize byt t 7 = h5 at *
    cases hw : wrongT t
    · rw [reqV_first (.inl hw)]
      rw [hw] at km
      have kf : Hid (∀ w, Calls Try.prog 72 #[.string t] w fun r w' => r = .returned (firstV t) ∧ Below w.heap.size w w') := fun w => first_any t w hmax
      obtain ⟨k, i, c, n, e, hV⟩ := firstV_agg t
      rw [hV] at kf ⊢
      clear hw
      go_enter Try.func82, Try.ntmps82
      go_wp2_with fail
      refine (kh.out _).mono ?_
      rintro e1 w1 ⟨rfl, hb1⟩
      have j0 := (Blk.made w 23 [.int .i64 0, .int .i64 0, .string ⟨#[]⟩]).below hb1
      have hbw : Below w.heap.size w w1 := ((Below.refl _ _).alloc (Nat.le_refl _) _).trans (hb1.mono (by simp))
      clear hb1
      go_wp2_with fail
      refine (km.out _).mono ?_
      rintro e2 w2 ⟨rfl, hb2⟩
      have hb2' : Below w1.heap.size w1 w2 := ((Below.refl _ _).alloc (Nat.le_refl _) _).trans (hb2.mono (by simp))
      have j2 := j0.below hb2'
      have hbw2 := hbw.trans (hb2'.mono hbw.size)
      clear j0 hb2 hb2' hbw
      go_wp2_with fail
      refine (kf.out _).mono ?_
      rintro e3 w3 ⟨rfl, hb3⟩
      have j3 := j2.below hb3
      have hbw3 := hbw2.trans (hb3.mono hbw2.size)
      clear j2 hb3 hbw2
      have a0 := j3.cell (k := 0) (u := .int .i64 0) rfl
      have a1 := j3.cell (k := 1) (u := .int .i64 0) rfl
      have a2 := j3.cell (k := 2) (u := .string ⟨#[]⟩) rfl
      have fz := j3.frozen
      go_wp2
      refine bodyPost_ret (v := .tuple #[.agg #[.int .i64 k, .int .i64 i, .string c], .int .i64 n, .int .i64 e]) (by simp [results, Try.results82, go_sem, a0, a1, a2]) rfl ⟨rfl, ?_⟩
      repeat (first | refine Below.setCell ?_ (by simp) _ | exact hbw3)
    · have hV : reqV t = .tuple #[nilRec, .int .i64 0, .int .i64 7] := by
        have : rcode true t = 1 := by simp [rcode, stopT, hw, hs]
        simp [reqV, this]
      rw [hV]
      rw [hw] at km
      unfold nilRec at *
      clear hw hV
      go_enter Try.func82, Try.ntmps82
      go_wp2_with fail
      refine (kh.out _).mono ?_
      rintro e1 w1 ⟨rfl, hb1⟩
      have j0 := (Blk.made w 23 [.int .i64 0, .int .i64 0, .string ⟨#[]⟩]).below hb1
      have hbw : Below w.heap.size w w1 := ((Below.refl _ _).alloc (Nat.le_refl _) _).trans (hb1.mono (by simp))
      clear hb1
      go_wp2_with fail
      refine (km.out _).mono ?_
      rintro e2 w2 ⟨rfl, hb2⟩
      have hb2' : Below w1.heap.size w1 w2 := ((Below.refl _ _).alloc (Nat.le_refl _) _).trans (hb2.mono (by simp))
      have j2 := j0.below hb2'
      have hbw2 := hbw.trans (hb2'.mono hbw.size)
      clear j0 hb2 hb2' hbw
      have a0 := j2.cell (k := 0) (u := .int .i64 0) rfl
      have a1 := j2.cell (k := 1) (u := .int .i64 0) rfl
      have a2 := j2.cell (k := 2) (u := .string ⟨#[]⟩) rfl
      have fz := j2.frozen
      go_wp2
      refine bodyPost_ret (v := .tuple #[.agg #[.int .i64 0, .int .i64 0, .string ⟨#[]⟩], .int .i64 0, .int .i64 7]) (by simp [results, Try.results82, go_sem, a0, a1, a2]) rfl ⟨rfl, ?_⟩
      repeat (first | refine Below.setCell ?_ (by simp) _ | exact hbw2)

end Go.Proofs.Ytlafkpaljibonaa

namespace Go.Proofs.Ytlafkpaljibonaa
open Go.RowKit

def PM.setRest (m : PM) (k : Nat) (s : ByteArray) : PM := { m with con := upd m.con k { m.con k with rest := s } }
def PM.takeAll (k : Nat) (all : ByteArray) : Nat → PM → Nat → PM
  | 0, m, t => m.setRest k (left all t)
  | f + 1, m, t =>
    if rcode true (left all t) = 0 then m.setRest k (left all t)
    else if rcode true (left all t) = 1 then m.close k
    else cond (m.again k (recT (left all t)).2.1 (recT (left all t)).1) (m.close k) (PM.takeAll k all f ((m.take k (recT (left all t))).settle) (t + sizeT (left all t)))

theorem rcode_cases (c : Bool) (t : ByteArray) : rcode c t = 0 ∨ rcode c t = 1 ∨ rcode c t = 2 := by
  unfold rcode
  split
  · exact .inl rfl
  · split
    · exact .inr (.inl rfl)
    · split
      · exact .inl rfl
      · exact .inr (.inr rfl)

theorem rec_size {t : ByteArray} : (recT t).2.2.size ≤ t.size := by
  simp only [recT, ByteArray.size_extract]; omega

theorem two_blks (w : World) (A B : List Value) (T1 T2 : TypeId) :
    let W := (w.alloc (.cells A.toArray T1)).alloc (.cells B.toArray T2)
    Blk W w.heap.size T1 A ∧ Blk W (w.heap.size + 1) T2 B ∧ Below w.heap.size w W := by
  intro W
  have e1 : (w.alloc (.cells A.toArray T1)).heap.size = w.heap.size + 1 := by simp
  have b1 := Blk.made w T1 A
  have b2 := Blk.made (w.alloc (.cells A.toArray T1)) T2 B
  rw [e1] at b2
  have s1 := fun (x : World) (ob : Obj) => (Below.refl x.heap.size x).alloc (Nat.le_refl _) ob
  exact ⟨b1.below (s1 _ _), b2, ((Below.refl _ _).alloc (Nat.le_refl _) _).alloc (by simp) _⟩

section
variable {o : Nat → Tag} {q : Nat} {w : World} {b : Nat} {m : PM} {sv : Nat → Value} {rv : Value}

theorem fcells_rest (m : PM) (sv : Nat → Value) (rv : Value) (k : Nat) (hk : k < 4) (s : ByteArray) :
    (fcells m sv rv).set (8 + k * 3 + 1) (.string s) = fcells (m.setRest k s) sv rv := by
  rcases k with _ | _ | _ | _ | k <;> first | rfl | omega

theorem FMem.putRest (h : FMem o q w b m sv rv) {k : Nat} (hk : k < 4) (s : ByteArray) :
    FMem o q (w.setCell ⟨b, 8 + k * 3 + 1, none⟩ (.string s)) b (m.setRest k s) sv rv ∧ Fr q o w o (w.setCell ⟨b, 8 + k * 3 + 1, none⟩ (.string s)) := by
  have hoth : ∀ x, x ≠ b → (w.setCell ⟨b, 8 + k * 3 + 1, none⟩ (.string s)).heap[x]? = w.heap[x]? := fun x hx => Below.heap_setCell _ _ _ x hx
  have hbk := h.blk.set (8 + k * 3 + 1) (.string s)
  rw [fcells_rest m sv rv k hk s] at hbk
  have hsent : ∀ j, j < 4 → ((m.setRest k s).con j).sent = (m.con j).sent := by
    intro j _
    simp only [PM.setRest, upd]
    split
    · rename_i e; rw [e]
    · rfl
  have hm1 := h.put hbk (by simp [World.setCell]) hoth hsent rfl
  exact ⟨hm1, h.fr_put hm1 (by simp [World.setCell]) (by simp [World.setCell]) (by simp [World.setCell]) (by simp [World.setCell]) hoth⟩

set_option maxRecDepth 100000 in
set_option maxHeartbeats 4000000 in
theorem takeAll_any (h : FMem o q w b m sv rv) (hq : q ≠ 0) (k : Nat) (hk : k < 4) (all : ByteArray) (hall : all.size ≤ 1000000000) {R S : Nat} (hsm : m.small R S) (hR : R ≤ 10000000000) (hS : S ≤ 10000000000) :
    Calls Try.prog 58 #[.pointer (some ⟨b, 0, none⟩), .int .i64 k, .string all] w fun r w' => r = .returned (.tuple #[]) ∧ ∃ o' sv' rv', FMem o' q w' b (PM.takeAll k all (all.size + 1) m 0) sv' rv' ∧ Fr q o w o' w' := by
  have hkI : (k : Int) < 4 := by omega
  go_enter Try.func58, Try.ntmps58
  go_wp2
  go_loopw [6] (fun i w' => ∃ (M : PM) (n f : Nat) (o' : Nat → Tag) (sv' : Nat → Value) (rv' : Value), i = .int .i64 n ∧ n ≤ all.size ∧ all.size - n < f ∧ FMem o' q w' b M sv' rv' ∧ Fr q o w o' w' ∧ PM.takeAll k all (all.size + 1) m 0 = PM.takeAll k all f M n ∧ M.small (R + n) (S + 208 * n)) (fun i _ => all.size - (intOf i).toNat)
  case atStart => exact ⟨m, 0, all.size + 1, o, sv, rv, rfl, Nat.zero_le _, by omega, h, Fr.refl h.clean, rfl, hsm.mono (by omega) (by omega)⟩
  case round =>
    obtain ⟨M, n, f, o1, sv1, rv1, rfl, hn, hf, hm, hfr, heq, hsmall⟩ := hrel
    clear h hsm
    have HEQ : Hid _ := heq
    clear heq
    obtain ⟨f', rfl⟩ : ∃ f', f = f' + 1 := ⟨f - 1, by omega⟩
    have HST : Hid (PM.takeAll k all (f' + 1) M n = if rcode true (left all n) = 0 then M.setRest k (left all n) else if rcode true (left all n) = 1 then M.close k else cond (M.again k (recT (left all n)).2.1 (recT (left all n)).1) (M.close k) (PM.takeAll k all f' ((M.take k (recT (left all n))).settle) (n + sizeT (left all n)))) := rfl
    by_cases hlt : n < all.size
    · have hls := left_size all n
      rcases rcode_cases true (left all n) with hc | hc | hc
      · have hv : reqV (all.extract n all.size) = .tuple #[nilRec, .int .i64 0, .int .i64 0] := by simp [reqV, show rcode true (all.extract n all.size) = 0 from hc]
        have HV : Hid (PM.takeAll k all (all.size + 1) m 0 = M.setRest k (left all n)) := by
          show _ = _
          rw [HEQ.out, HST.out, if_pos hc]
        clear hc HST HEQ hls
        unfold nilRec at hv
        go_wp2_with fail
        refine (firstRequest_any (all.extract n all.size) _ (by rw [ByteArray.size_extract]; omega)).mono ?_
        rintro e w1 ⟨rfl, hb⟩
        rw [hv]
        clear hv
        have hm1 := hm.below hb
        have fr1 := hfr.below hb
        go_wp2_with fail
        have hbX : Below w1.heap.size w1 (w1.alloc (.cells #[.int .i64 0, .int .i64 0, .string ⟨#[]⟩] 23)) := (Below.refl _ _).alloc (Nat.le_refl _) _
        have hmX := hm1.below hbX
        have frX := fr1.below hbX
        generalize w1.alloc (.cells #[.int .i64 0, .int .i64 0, .string ⟨#[]⟩] 23) = wX at *
        have kj : Hid (∀ w, Calls Try.prog 85 #[.string ⟨#[]⟩, .string (all.extract n all.size)] w fun r w' => r = .returned (.string (left all n)) ∧ Below w.heap.size w w') := fun w => by
          have := joined_any ⟨#[]⟩ (all.extract n all.size) w (by simp [ByteArray.size]) (by rw [ByteArray.size_extract]; omega)
          rw [nil_ba] at this
          exact this
        have hmd := hmX.below (Below.refl _ _).drew
        have hnI : (n : Int) ≤ all.size := by omega
        go_region_held3 (fun w' => True) (trivial) (first | (go_at_call 85; refine (kj.out _).mono ?_; rintro e w2 ⟨rfl, hb2⟩; have hm2 := hmd.below hb2; have cR := hm2.rest hk; have fz := hm2.frozen))
        go_wp2
        refine bodyPost_end (v := .tuple #[]) (by simp [results, Try.results58, go_sem]) rfl ⟨rfl, ?_⟩
        rw [HV.out]
        have hp := hm2.putRest hk (left all n)
        exact ⟨o1, sv1, rv1, hp.1, ((frX.below (Below.refl _ _).drew).below hb2).trans hp.2⟩
      · have hv : reqV (all.extract n all.size) = .tuple #[nilRec, .int .i64 0, .int .i64 7] := by simp [reqV, show rcode true (all.extract n all.size) = 1 from hc]
        have HV : Hid (PM.takeAll k all (all.size + 1) m 0 = M.close k) := by
          show _ = _
          rw [HEQ.out, HST.out, if_neg (by rw [hc]; omega), if_pos hc]
        clear hc HST HEQ hls
        unfold nilRec at hv
        go_wp2_with fail
        refine (firstRequest_any (all.extract n all.size) _ (by rw [ByteArray.size_extract]; omega)).mono ?_
        rintro e w1 ⟨rfl, hb⟩
        rw [hv]
        clear hv
        have hm1 := hm.below hb
        have fr1 := hfr.below hb
        go_wp2_with fail
        have hbB : Below w1.heap.size w1 ((w1.alloc (.cells #[.int .i64 0, .int .i64 0, .string ⟨#[]⟩] 23)).alloc (.cells #[.int .i64 k, .int .i64 0] 109)) := ((Below.refl _ _).alloc (Nat.le_refl _) _).alloc (by simp) _
        refine (close_any (hm1.below hbB) hq k hk (by have := hsmall.req; omega)).mono ?_
        rintro e w2 ⟨rfl, o2, rv2, hm2, fr2⟩
        go_wp2
        refine bodyPost_ret (v := .tuple #[]) (by simp [results, Try.results58, go_sem]) rfl ⟨rfl, ?_⟩
        rw [HV.out]
        exact ⟨o2, sv1, rv2, hm2, (fr1.below hbB).trans fr2⟩
      · obtain ⟨q1, q2, -, -, -⟩ := rcode_two hc
        rw [hls] at q2
        have hrs := rec_size (t := left all n)
        rw [hls] at hrs
        have hv : reqV (all.extract n all.size) = .tuple #[.agg #[.int .i64 (recT (left all n)).1, .int .i64 (recT (left all n)).2.1, .string (recT (left all n)).2.2], .int .i64 (sizeT (left all n)), .int .i64 0] := by simp [reqV, show rcode true (all.extract n all.size) = 2 from hc, left]
        have HV : Hid (PM.takeAll k all (all.size + 1) m 0 = cond (M.again k (recT (left all n)).2.1 (recT (left all n)).1) (M.close k) (PM.takeAll k all f' ((M.take k (recT (left all n))).settle) (n + sizeT (left all n)))) := by
          show _ = _
          rw [HEQ.out, HST.out, if_neg (by rw [hc]; omega), if_neg (by rw [hc]; omega)]
        clear hc HST HEQ hls
        generalize recT (left all n) = r at *
        generalize sizeT (left all n) = z at *
        have hne : ((z : Int) == 0) = false := by simp; omega
        have ka : Hid (∀ w', FMem o1 q w' b M sv1 rv1 → Calls Try.prog 83 #[.pointer (some ⟨b, 0, none⟩), .agg #[.int .i64 k, .int .i64 r.2.1], .int .i64 r.1] w' fun e w'' => e = .returned (.bool (M.again k r.2.1 r.1)) ∧ Below w'.heap.size w' w'') := fun w' h' => beginsAgain_any h' k r.2.1 r.1
        have hreq := hsmall.req
        cases hag : M.again k r.2.1 r.1
        · rw [hag] at ka HV
          simp only [cond_false] at HV
          go_wp2_with fail
          refine (firstRequest_any (all.extract n all.size) _ (by rw [ByteArray.size_extract]; omega)).mono ?_
          rintro e w1 ⟨rfl, hb⟩
          rw [hv]
          clear hv
          have hm1 := hm.below hb
          have fr1 := hfr.below hb
          obtain ⟨k0, k1, kbb⟩ := two_blks w1 [.int .i64 r.1, .int .i64 r.2.1, .string r.2.2] [.int .i64 k, .int .i64 r.2.1] 23 109
          go_wp2_with fail
          refine (ka.out _ (hm1.below kbb)).mono ?_
          rintro e w2 ⟨rfl, hb2⟩
          have j0 := k0.below hb2
          have j1 := k1.below hb2
          have hm2 := (hm1.below kbb).below hb2
          have fr2 := (fr1.below kbb).below hb2
          have a0 := j0.cell (k := 0) (u := .int .i64 r.1) rfl
          have a1 := j0.cell (k := 1) (u := .int .i64 r.2.1) rfl
          have a2 := j0.cell (k := 2) (u := .string r.2.2) rfl
          have d0 := j1.cell (k := 0) (u := .int .i64 k) rfl
          have d1 := j1.cell (k := 1) (u := .int .i64 r.2.1) rfl
          clear k0 k1 kbb hb hb2 ka
          go_wp2_with fail
          refine (take_any hm2 hq k hk r (by omega) hsmall (by omega) (by omega)).mono ?_
          rintro e w3 ⟨rfl, o3, sv3, rv3, hm3, fr3⟩
          clear a0 a1 a2 d0 d1
          go_wp2_with fail
          refine (settle_any hm3).mono ?_
          rintro e w4 ⟨rfl, hm4, fr4⟩
          go_wp2
          refine ⟨⟨(M.take k r).settle, n + z, f', o3, sv3, rv3, by go_num, by omega, by omega, hm4, (fr2.trans fr3).trans fr4, HV.out, ((hsmall.take k r).settle).mono (by omega) (by omega)⟩, by simp [intOf]; omega⟩
        · rw [hag] at ka HV
          simp only [cond_true] at HV
          go_wp2_with fail
          refine (firstRequest_any (all.extract n all.size) _ (by rw [ByteArray.size_extract]; omega)).mono ?_
          rintro e w1 ⟨rfl, hb⟩
          rw [hv]
          clear hv
          have hm1 := hm.below hb
          have fr1 := hfr.below hb
          obtain ⟨k0, k1, kbb⟩ := two_blks w1 [.int .i64 r.1, .int .i64 r.2.1, .string r.2.2] [.int .i64 k, .int .i64 r.2.1] 23 109
          go_wp2_with fail
          refine (ka.out _ (hm1.below kbb)).mono ?_
          rintro e w2 ⟨rfl, hb2⟩
          have hm2 := (hm1.below kbb).below hb2
          have fr2 := (fr1.below kbb).below hb2
          clear k0 k1 kbb hb hb2 ka
          go_wp2_with fail
          refine (close_any hm2 hq k hk (by omega)).mono ?_
          rintro e w3 ⟨rfl, o3, rv3, hm3, fr3⟩
          go_wp2
          refine bodyPost_ret (v := .tuple #[]) (by simp [results, Try.results58, go_sem]) rfl ⟨rfl, ?_⟩
          rw [HV.out]
          exact ⟨o3, sv1, rv3, hm3, fr2.trans fr3⟩
    · have hne : n = all.size := by omega
      have HV : Hid (PM.takeAll k all (all.size + 1) m 0 = M.setRest k (left all n)) := by
        show _ = _
        rw [HEQ.out, HST.out, if_pos]
        unfold rcode
        rw [if_pos]
        rw [left_size]; omega
      clear HST HEQ hne
      have hm1 := hm
      have fr1 := hfr
      go_wp2_with fail
      have hmX := hm1
      have frX := fr1
      have kj : Hid (∀ w, Calls Try.prog 85 #[.string ⟨#[]⟩, .string (all.extract n all.size)] w fun r w' => r = .returned (.string (left all n)) ∧ Below w.heap.size w w') := fun w => by
        have := joined_any ⟨#[]⟩ (all.extract n all.size) w (by simp [ByteArray.size]) (by rw [ByteArray.size_extract]; omega)
        rw [nil_ba] at this
        exact this
      have hmd := hmX.below (Below.refl _ _).drew
      have hnI : (n : Int) ≤ all.size := by omega
      go_region_held3 (fun w' => True) (trivial) (first | (go_at_call 85; refine (kj.out _).mono ?_; rintro e w2 ⟨rfl, hb2⟩; have hm2 := hmd.below hb2; have cR := hm2.rest hk; have fz := hm2.frozen))
      go_wp2
      refine bodyPost_end (v := .tuple #[]) (by simp [results, Try.results58, go_sem]) rfl ⟨rfl, ?_⟩
      rw [HV.out]
      have hp := hm2.putRest hk (left all n)
      exact ⟨o1, sv1, rv1, hp.1, ((frX.below (Below.refl _ _).drew).below hb2).trans hp.2⟩

end
end Go.Proofs.Ytlafkpaljibonaa

namespace Go.Proofs.Ytlafkpaljibonaa
open Go.RowKit

def PM.feed (m : PM) (k : Nat) (s : ByteArray) : PM := PM.takeAll k ((m.con k).rest ++ s) (((m.con k).rest ++ s).size + 1) m 0
def PM.afterFeed (m : PM) (n : Int) (s : ByteArray) : PM := cond (m.chk n == 0) (m.feed n.toNat s) m

section
variable {o : Nat → Tag} {q : Nat} {w : World} {b : Nat} {m : PM} {sv : Nat → Value} {rv : Value}

set_option maxRecDepth 100000 in
set_option maxHeartbeats 2000000 in
theorem feed_any (h : FMem o q w b m sv rv) (hq : q ≠ 0) (n : Int) (s : ByteArray) (hs : s.size ≤ 100000000) (hrest : ∀ k, k < 4 → (m.con k).rest.size ≤ 100000000) {R S : Nat} (hsm : m.small R S) (hR : R ≤ 10000000000) (hS : S ≤ 10000000000) :
    Calls Try.prog 25 #[.pointer (some ⟨b, 0, none⟩), .int .i64 n, .string s] w fun r w' => r = .returned (.int .i64 (m.chk n)) ∧ ∃ o' sv' rv', FMem o' q w' b (m.afterFeed n s) sv' rv' ∧ Fr q o w o' w' := by
  have k1 : Hid (∀ w', FMem o q w' b m sv rv → Calls Try.prog 57 #[.pointer (some ⟨b, 0, none⟩), .int .i64 n] w' fun r w'' => r = .returned (.int .i64 (m.chk n)) ∧ w'' = w') := fun w' h' => checkOpen_any h' n
  unfold PM.afterFeed
  by_cases he : m.chk n = 0
  · have : ∃ k : Nat, k < 4 ∧ n = k := by
      rcases isC_cases n with h0 | ⟨h0, k, hk, e⟩
      · simp [PM.chk, h0] at he
      · exact ⟨k, hk, e⟩
    rw [he] at k1
    rw [he]
    simp only [beq_self_eq_true, cond_true]
    obtain ⟨k, hk, rfl⟩ := this
    simp only [Int.toNat_natCast]
    clear he
    have c1 := h.rest hk
    have hr := hrest k hk
    unfold PM.feed
    generalize (m.con k).rest = rest at *
    have hcat : ¬ (9223372036854775807 < rest.size + s.size) := by omega
    have hsz : (rest ++ s).size ≤ 1000000000 := by rw [ByteArray.size_append]; omega
    go_enter Try.func25, Try.ntmps25
    go_wp2_with fail
    refine (k1.out _ h).mono ?_
    rintro e w1 ⟨rfl, rfl⟩
    go_wp2_with fail
    refine (takeAll_any h hq k hk (rest ++ s) hsz hsm hR hS).mono ?_
    rintro e w2 ⟨rfl, o', sv', rv', hm, fr⟩
    go_wp2
    go_ret
    exact ⟨rfl, o', sv', rv', hm, fr⟩
  · have he2 : (m.chk n == 0) = false := by simpa using he
    simp only [he2, cond_false]
    generalize m.chk n = E at *
    go_enter Try.func25, Try.ntmps25
    go_wp2_with fail
    refine (k1.out _ h).mono ?_
    rintro e w1 ⟨rfl, rfl⟩
    go_wp2
    go_ret
    exact ⟨rfl, o, sv, rv, h, Fr.refl h.clean⟩
end
end Go.Proofs.Ytlafkpaljibonaa
