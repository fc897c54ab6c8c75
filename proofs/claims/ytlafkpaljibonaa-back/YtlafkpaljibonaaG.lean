import Derived.Test.YtlafkpaljibonaaF
namespace Go.Proofs.Ytlafkpaljibonaa
open Go.RowKit

theorem refHead_any (t : ByteArray) (w : World) (h : 8 ≤ (t.size : Int)) (hmax : (t.size : Int) ≤ 1000000000000) :
    Calls Try.prog 95 #[.string t] w fun r w' => r = .returned (.agg #[.int .i64 (hKind t), .int .i64 (hId t), .int .i64 (hLen t), .int .i64 (hPad t), .bool (badT t)]) ∧ Below w.heap.size w w' := by
  have e1 : 256 * byt t 2 + byt t 3 = hId t := by unfold hId; omega
  have e2 : 256 * byt t 4 + byt t 5 = hLen t := by unfold hLen; omega
  have := refHead_raw t w h hmax
  rw [e1, e2] at this
  exact this

def wrongB (k n : Int) : Bool := if k = 1 then n != 1 else if k = 2 then n != 0 else k != 5

set_option maxRecDepth 100000 in
set_option maxHeartbeats 400000 in
theorem refWrong_any (k i n p : Int) (b : Bool) (w : World) :
    Calls Try.prog 96 #[.agg #[.int .i64 k, .int .i64 i, .int .i64 n, .int .i64 p, .bool b]] w fun r w' => r = .returned (.bool (wrongB k n)) ∧ Below w.heap.size w w' := by
  unfold wrongB
  by_cases h1 : k = 1
  · subst h1
    go_enter Try.func96, Try.ntmps96
    go_wp2
    go_ret
    exact ⟨rfl, (Below.refl _ _).alloc (Nat.le_refl _) _⟩
  · by_cases h2 : k = 2
    · subst h2
      go_enter Try.func96, Try.ntmps96
      go_wp2
      go_ret
      exact ⟨rfl, (Below.refl _ _).alloc (Nat.le_refl _) _⟩
    · have g1 : (k == 1) = false := by simpa using h1
      have g2 : (k == 2) = false := by simpa using h2
      rw [if_neg h1, if_neg h2]
      clear h1 h2
      go_enter Try.func96, Try.ntmps96
      go_wp2
      go_ret
      exact ⟨rfl, (Below.refl _ _).alloc (Nat.le_refl _) _⟩

/-- A head that may not come from a client. -/
def wrongT (t : ByteArray) : Bool := wrongB (hKind t) (hLen t)
def stopT (c : Bool) (t : ByteArray) : Bool := badT t || (c && wrongT t)
def rcode (c : Bool) (t : ByteArray) : Nat :=
  if (t.size : Int) < 8 then 0 else if stopT c t then 1 else if (t.size : Int) < 8 + hLen t + hPad t then 0 else 2

theorem rcode_false (t : ByteArray) : rcode false t = code t := by simp [rcode, code, stopT]

def rdec (c : Bool) : Nat → ByteArray → Nat → List Rec × Nat × Bool
  | 0, _, i => ([], i, false)
  | f + 1, s, i =>
    if rcode c (left s i) = 0 then ([], i, false)
    else if rcode c (left s i) = 1 then ([], i, true)
    else (recT (left s i) :: (rdec c f s (i + sizeT (left s i))).1, (rdec c f s (i + sizeT (left s i))).2)

theorem rcode_two {c : Bool} {t : ByteArray} (h : rcode c t = 2) : 8 ≤ sizeT t ∧ sizeT t ≤ t.size ∧ stopT c t = false ∧ 8 + hLen t + hPad t ≤ (t.size : Int) ∧ 8 ≤ (t.size : Int) := by
  have hd := hd_bd t
  unfold rcode at h
  split at h
  · cases h
  · split at h
    · cases h
    · split at h
      · cases h
      · rename_i h1 h2 h3
        refine ⟨by unfold sizeT; omega, by unfold sizeT; omega, by simpa using h2, by omega, by omega⟩

theorem rdec_zero {c : Bool} {f : Nat} {s : ByteArray} {i : Nat} (h : rcode c (left s i) = 0) : rdec c f s i = ([], i, false) := by
  cases f with
  | zero => rfl
  | succ f => simp [rdec, h]
theorem rdec_one {c : Bool} {f : Nat} {s : ByteArray} {i : Nat} (h : rcode c (left s i) = 1) : rdec c (f + 1) s i = ([], i, true) := by
  simp [rdec, h]
theorem rdec_two {c : Bool} {f : Nat} {s : ByteArray} {i : Nat} (h : rcode c (left s i) = 2) : rdec c (f + 1) s i = (recT (left s i) :: (rdec c f s (i + sizeT (left s i))).1, (rdec c f s (i + sizeT (left s i))).2) := by
  simp [rdec, h]

def rdL (c : Bool) (s : ByteArray) : List Rec := (rdec c (s.size + 1) s 0).1
def rdN (c : Bool) (s : ByteArray) : Nat := (rdec c (s.size + 1) s 0).2.1
def rdB (c : Bool) (s : ByteArray) : Bool := (rdec c (s.size + 1) s 0).2.2

theorem rdec_false (f : Nat) (s : ByteArray) : ∀ i, (rdec false f s i).1 = (dec f s i).1 ∧ (rdec false f s i).2.1 = (dec f s i).2.1 ∧ (if (rdec false f s i).2.2 then (7 : Int) else 0) = (dec f s i).2.2 := by
  induction f with
  | zero => intro i; simp [rdec, dec]
  | succ f ih =>
    intro i
    simp only [rdec, dec, rcode_false]
    split
    · simp
    · split
      · simp
      · have := ih (i + sizeT (left s i))
        exact ⟨by rw [this.1], this.2.1, this.2.2⟩

theorem wrap_ok {n : Int} (h0 : -9223372036854775808 ≤ n) (h1 : n ≤ 9223372036854775807) : IntKind.i64.wrap n = n := by rw [IntKind.wrap_i64]; omega

theorem slice_rec (s : ByteArray) (k : Nat) (h : (k : Int) + 8 + hLen (left s k) + hPad (left s k) ≤ (s.size : Int)) :
    s.extract ((k : Int) + 8).toNat ((k : Int) + 8 + hLen (left s k)).toNat = (recT (left s k)).2.2 := by
  have hd := hd_bd (left s k)
  unfold recT
  show _ = (left s k).extract 8 (8 + hLen (left s k)).toNat
  generalize hLen (left s k) = ln at *
  unfold left
  rw [ByteArray.extract_extract]
  have e1 : ((k : Int) + 8).toNat = k + 8 := by omega
  have e2 : ((k : Int) + 8 + ln).toNat = min (k + (8 + ln).toNat) s.size := by omega
  rw [e1, e2]

set_option maxRecDepth 100000 in
set_option maxHeartbeats 2000000 in
theorem refRead_any (s : ByteArray) (c : Bool) (w : World) (hmax : (s.size : Int) ≤ 1000000000000) :
    Calls Try.prog 71 #[.string s, .bool c] w fun r w' => ∃ v, r = .returned (.tuple #[v, .int .i64 (rdN c s), .bool (rdB c s)]) ∧ w'.ownsRow w.heap.size 23 3 v (rdL c s).length (rowOf (rdL c s)) ∧ Below w.heap.size w w' := by
  obtain ⟨i0, hi, hz0, hz1, hz2⟩ := info_parts info23
  go_enter Try.func71, Try.ntmps71
  go_wp2
  go_loopw [7, 8] (fun v i w' => ∃ (acc : List Rec) (k f : Nat), i = .int .i64 k ∧ k ≤ s.size ∧ acc.length * 8 ≤ k ∧ s.size - k < f ∧ rdL c s = acc ++ (rdec c f s k).1 ∧ (rdN c s, rdB c s) = (rdec c f s k).2 ∧ w'.ownsRow w.heap.size 23 3 v acc.length (rowOf acc) ∧ Below w.heap.size w w') (fun _ i _ => s.size - (intOf i).toNat)
  case atStart => exact ⟨[], 0, s.size + 1, rfl, Nat.zero_le _, by simp, by omega, rfl, rfl, World.ownsRow_nil _ _ _ _, Below.refl _ _⟩
  case round =>
    obtain ⟨acc, k, f, rfl, hk, hlen, hf, hL, hN, hown, hbel⟩ := hrel
    have HL : Hid _ := hL
    have HN : Hid _ := hN
    clear hL hN
    have hbase := hbel.size
    by_cases hlt : 8 ≤ s.size - k
    · have hls := left_size s k
      have hd := hd_bd (left s k)
      have hge : (8 : Int) ≤ (s.size : Int) - (k : Int) := by omega
      obtain ⟨f', rfl⟩ : ∃ f', f = f' + 1 := ⟨f - 1, by omega⟩
      go_wp2_with fail
      refine (refHead_any (s.extract k s.size) _ (by rw [ByteArray.size_extract]; omega) (by rw [ByteArray.size_extract]; omega)).mono ?_
      rw [show s.extract k s.size = left s k from rfl]
      rintro e w1 ⟨rfl, hb⟩
      have hg : wr.grownBy w1 none := ⟨hb.os, hb.tape, hb.output, hb.size, fun b hb' _ => hb.block b hb'⟩
      have hown1 := hown.kept hg (by cases hv : u7.ownBlock <;> simp)
      have hsz1 := hb.size
      have hbel1 : Below w.heap.size w w1 := hbel.trans (hb.mono hbase)
      clear hg hown hbel hb
      go_wp2_with fail
      refine (refWrong_any _ _ _ _ _ _).mono ?_
      rintro e w2 ⟨rfl, hb2⟩
      obtain ⟨e0, -⟩ := keep_new hb2 0
      obtain ⟨e1, -⟩ := keep_new hb2 1
      obtain ⟨e2, -⟩ := keep_new hb2 2
      obtain ⟨e3, -⟩ := keep_new hb2 3
      obtain ⟨e4, -⟩ := keep_new hb2 4
      simp only [List.getElem?_toArray, List.getElem?_cons_zero, List.getElem?_cons_succ] at e0 e1 e2 e3 e4
      have hg2 : (w1.alloc (.cells #[.int .i64 (hKind (left s k)), .int .i64 (hId (left s k)), .int .i64 (hLen (left s k)), .int .i64 (hPad (left s k)), .bool (badT (left s k))] 131)).grownBy w2 none := ⟨hb2.os, hb2.tape, hb2.output, hb2.size, fun b hb' _ => hb2.block b hb'⟩
      have hown2 := (hown1.alloc _).kept hg2 (by cases hv : u7.ownBlock <;> simp)
      have hsz2 : w1.heap.size < w2.heap.size := by have := hb2.size; simp at this; omega
      have hbel2 : Below w.heap.size w w2 := (hbel1.alloc (by omega) _).trans (hb2.mono (by simp; omega))
      have h7 : ∀ b, u7.ownBlock = some b → w.heap.size ≤ b ∧ b < w1.heap.size := hown1.lt
      have h7' : some w1.heap.size ≠ u7.ownBlock := fun e => by have := h7 _ e.symm; omega
      clear hg2 hown1 hbel1 hb2
      by_cases hstop : stopT c (left s k) = true
      · have hd1 := rdec_one (f := f') (show rcode c (left s k) = 1 from by unfold rcode; rw [if_neg (by rw [hls]; omega), if_pos hstop])
        have hL := HL.out
        have hN := HN.out
        rw [hd1] at hL hN
        simp only [List.append_nil, Prod.mk.injEq] at hL hN
        have HL2 : Hid _ := hL
        have HN2 : Hid _ := hN
        clear hL hN hd1 HL HN hls
        unfold stopT wrongT at hstop
        have hcase : badT (left s k) = true ∨ (badT (left s k) = false ∧ c = true ∧ wrongB (hKind (left s k)) (hLen (left s k)) = true) := by
          cases hbt : badT (left s k) <;> cases c <;> simp_all
        clear hstop
        rcases hcase with hbt | ⟨hbt, rfl, hwt⟩
        · rw [hbt] at e4
          go_wp2
          go_ret3
          refine ⟨u7, by rw [HN2.out.1, HN2.out.2]; rfl, ?_, hbel2⟩
          rw [HL2.out]; exact hown2
        · rw [hbt] at e4
          rw [hwt]
          go_wp2
          go_ret3
          refine ⟨u7, by rw [HN2.out.1, HN2.out.2]; rfl, ?_, hbel2⟩
          rw [HL2.out]; exact hown2
      · have hstop' : stopT c (left s k) = false := by simpa using hstop
        clear hstop
        have hcase : badT (left s k) = false ∧ (c = false ∨ wrongB (hKind (left s k)) (hLen (left s k)) = false) := by
          unfold stopT wrongT at hstop'
          cases hbt : badT (left s k) <;> cases c <;> simp_all
        obtain ⟨hbt, hcw⟩ := hcase
        rw [hbt] at e4
        clear hbt
        by_cases hend : s.size - k < 8 + hLen (left s k) + hPad (left s k)
        · have hd1 := rdec_zero (f := f' + 1) (show rcode c (left s k) = 0 from by unfold rcode; rw [if_neg (by rw [hls]; omega), hstop', if_neg (by simp), if_pos (by rw [hls]; omega)])
          have hL := HL.out
          have hN := HN.out
          rw [hd1] at hL hN
          simp only [List.append_nil, Prod.mk.injEq] at hL hN
          have HL2 : Hid _ := hL
          have HN2 : Hid _ := hN
          clear hL hN hd1 HL HN hls hstop'
          have hend' : (s.size : Int) < (k : Int) + 8 + hLen (left s k) + hPad (left s k) := by omega
          rcases hcw with rfl | hcw
          · go_wp2
            go_ret3
            refine ⟨u7, by rw [HN2.out.1, HN2.out.2]; rfl, ?_, hbel2⟩
            rw [HL2.out]; exact hown2
          · rw [hcw]
            cases c
            all_goals
              go_wp2
              go_ret3
              refine ⟨u7, by rw [HN2.out.1, HN2.out.2]; rfl, ?_, hbel2⟩
              rw [HL2.out]; exact hown2
        · have hd1 := rdec_two (f := f') (show rcode c (left s k) = 2 from by unfold rcode; rw [if_neg (by rw [hls]; omega), hstop', if_neg (by simp), if_neg (by rw [hls]; omega)])
          have hL := HL.out
          have hN := HN.out
          rw [hd1] at hL hN
          have HL2 : Hid _ := hL
          have HN2 : Hid _ := hN
          clear hL hN hd1 HL HN hls hstop'
          have hend' : (k : Int) + 8 + hLen (left s k) + hPad (left s k) ≤ (s.size : Int) := by omega
          have hs : ∀ wx : World, (Instr.slice 9 (.string s) (some (.int .i64 ((k : Int) + 8))) (some (.int .i64 ((k : Int) + 8 + hLen (left s k)))) none).run Try.prog wx = .ok (.string (recT (left s k)).2.2) wx := by
            intro wx
            rw [run_slice_string (P := Try.prog) wx 9 s .i64 .i64 ((k : Int) + 8) ((k : Int) + 8 + hLen (left s k)) Try.underlying9 (by omega) (by omega) (by omega), slice_rec s k hend']
          have hcell : w2.cell? ⟨w1.heap.size, 0, none⟩ = some (.int .i64 (recT (left s k)).1) ∧ w2.cell? ⟨w1.heap.size, 1, none⟩ = some (.int .i64 (recT (left s k)).2.1) := ⟨e0, e1⟩
          obtain ⟨q0, q1⟩ := hcell
          clear e0 e1
          have hzk : ((sizeT (left s k) : Nat) : Int) = 8 + hLen (left s k) + hPad (left s k) := by unfold sizeT; omega
          have HZ : Hid _ := hzk
          clear hzk
          generalize hr : recT (left s k) = r at hs q0 q1
          have HR : Hid _ := hr
          clear hr
          generalize hln : hLen (left s k) = ln at *
          generalize hpd : hPad (left s k) = pd at *
          clear hln hpd
          have hc2 : c = false ∨ (c = true ∧ wrongB (hKind (left s k)) ln = false) := by
            cases c
            · exact .inl rfl
            · exact .inr ⟨rfl, by simpa using hcw⟩
          clear hcw
          generalize wrongB (hKind (left s k)) ln = wb at *
          have hw1 : IntKind.i64.wrap ((k : Int) + 8) = (k : Int) + 8 := wrap_ok (by omega) (by omega)
          have hw2 : IntKind.i64.wrap ((k : Int) + 8 + ln) = (k : Int) + 8 + ln := wrap_ok (by omega) (by omega)
          rcases hc2 with rfl | ⟨rfl, rfl⟩
          all_goals
            go_wp2
            refine wp_region_noPanic ?_
            refine wp_region_held_drew (S := fun w' => w'.cell? ⟨w1.heap.size, 0, none⟩ = some (.int .i64 r.1) ∧ w'.cell? ⟨w1.heap.size, 1, none⟩ = some (.int .i64 r.2.1) ∧ w'.cell? ⟨w1.heap.size, 2, none⟩ = some (.int .i64 ln)) (by kernel_rfl) (by simp [q0, q1, e2]) (fun hHeld => ?_)
            refine take_at (i := 0) (v := ?_) rfl (by kernel_rfl) (by kernel_rfl) (by kernel_rfl) (fun _ _ _ h => h) (by rfl) ?_ (by assumption) ?_
            rotate_left
            · (intro w hSw; go_simp; with_reducible rfl)
            simp only [Act.put, List.setIfInBounds_toArray, List.set_cons_zero, List.set_cons_succ]
            refine take_at (i := 1) (v := ?_) rfl (by kernel_rfl) (by kernel_rfl) (by kernel_rfl) (fun _ _ _ h => h) (by rfl) ?_ (by assumption) ?_
            rotate_left
            · (intro w hSw; go_simp; with_reducible rfl)
            simp only [Act.put, List.setIfInBounds_toArray, List.set_cons_zero, List.set_cons_succ]
            refine take_at (i := 2) (v := ?_) rfl (by kernel_rfl) (by kernel_rfl) (by kernel_rfl) (fun _ _ _ h => h) (by rfl) ?_ (by assumption) ?_
            rotate_left
            · (intro w hSw; go_simp; with_reducible rfl)
            simp only [Act.put, List.setIfInBounds_toArray, List.set_cons_zero, List.set_cons_succ]
            refine take_at (i := 3) (v := ?_) rfl (by kernel_rfl) (by kernel_rfl) (by kernel_rfl) (fun _ _ _ h => h) (by rfl) ?_ (by assumption) ?_
            rotate_left
            · (intro w hSw; go_simp; with_reducible rfl)
            simp only [Act.put, List.setIfInBounds_toArray, List.set_cons_zero, List.set_cons_succ]
            refine take_at (i := 4) (v := ?_) rfl (by kernel_rfl) (by kernel_rfl) (by kernel_rfl) (fun _ _ _ h => h) (by rfl) ?_ (by assumption) ?_
            rotate_left
            · (intro w hSw; go_simp; with_reducible rfl)
            simp only [Act.put, List.setIfInBounds_toArray, List.set_cons_zero, List.set_cons_succ]
            refine take_at (i := 5) (v := ?_) rfl (by kernel_rfl) (by kernel_rfl) (by kernel_rfl) (fun _ _ _ h => h) (by rfl) ?_ (by assumption) ?_
            rotate_left
            · (intro w hSw; go_simp; with_reducible rfl)
            simp only [Act.put, List.setIfInBounds_toArray, List.set_cons_zero, List.set_cons_succ]
            refine take_at (i := 6) (v := ?_) rfl (by kernel_rfl) (by kernel_rfl) (by kernel_rfl) (fun _ _ _ h => h) (by rfl) ?_ (by assumption) ?_
            rotate_left
            · (intro w hSw; go_simp; with_reducible rfl)
            simp only [Act.put, List.setIfInBounds_toArray, List.set_cons_zero, List.set_cons_succ]
            refine take_at (i := 7) (v := ?_) rfl (by kernel_rfl) (by kernel_rfl) (by kernel_rfl) (fun _ _ _ h => h) (by rfl) ?_ (by assumption) ?_
            rotate_left
            · (intro w hSw; go_simp; with_reducible rfl)
            simp only [Act.put, List.setIfInBounds_toArray, List.set_cons_zero, List.set_cons_succ]
            refine take_at (i := 8) (v := ?_) rfl (by kernel_rfl) (by kernel_rfl) (by kernel_rfl) (fun _ _ _ h => h) (by rfl) ?_ (by assumption) ?_
            rotate_left
            · (intro w hSw; go_simp; with_reducible rfl)
            simp only [Act.put, List.setIfInBounds_toArray, List.set_cons_zero, List.set_cons_succ]
            refine take_at (i := 9) (v := ?_) rfl (by kernel_rfl) (by kernel_rfl) (by kernel_rfl) (fun _ _ _ h => h) (by rfl) ?_ (by assumption) ?_
            rotate_left
            · (intro w hSw; go_simp; with_reducible rfl)
            simp only [Act.put, List.setIfInBounds_toArray, List.set_cons_zero, List.set_cons_succ]
            refine take_at (i := 10) (v := ?_) rfl (by kernel_rfl) (by kernel_rfl) (by kernel_rfl) (fun _ _ _ h => h) (by rfl) ?_ (by assumption) ?_
            rotate_left
            · (intro w hSw; go_simp; with_reducible rfl)
            simp only [Act.put, List.setIfInBounds_toArray, List.set_cons_zero, List.set_cons_succ]
            refine take_at (i := 11) (v := ?_) rfl (by kernel_rfl) (by kernel_rfl) (by kernel_rfl) (fun _ _ _ h => h) (by rfl) ?_ (by assumption) ?_
            rotate_left
            · (intro w hSw; go_simp; with_reducible rfl)
            simp only [Act.put, List.setIfInBounds_toArray, List.set_cons_zero, List.set_cons_succ]
            refine take_at (i := 12) (v := ?_) rfl (by kernel_rfl) (by kernel_rfl) (by kernel_rfl) (fun _ _ _ h => h) (by rfl) ?_ (by assumption) ?_
            rotate_left
            · (intro w hSw; go_simp; with_reducible rfl)
            simp only [Act.put, List.setIfInBounds_toArray, List.set_cons_zero, List.set_cons_succ]
            refine take_at (i := 13) (v := ?_) rfl (by kernel_rfl) (by kernel_rfl) (by kernel_rfl) (fun _ _ _ h => h) (by rfl) ?_ (by assumption) ?_
            rotate_left
            · (intro w hSw; go_simp; with_reducible rfl)
            simp only [Act.put, List.setIfInBounds_toArray, List.set_cons_zero, List.set_cons_succ]
            refine take_at (i := 14) (v := ?_) rfl (by kernel_rfl) (by kernel_rfl) (by kernel_rfl) (fun _ _ _ h => h) (by rfl) ?_ (by assumption) ?_
            rotate_left
            · (intro w hSw; go_simp; with_reducible rfl)
            simp only [Act.put, List.setIfInBounds_toArray, List.set_cons_zero, List.set_cons_succ]
            refine only_at (i := 15) rfl (by kernel_rfl) (by rfl) (fun K hK => ?_)
            go_simp
            refine hK.out _ _ (by simp [q0, q1, e2, World.cell?_alloc_some]) ?_
            clear hK K hHeld
            refine only_at (i := 16) rfl (by kernel_rfl) (by rfl) (fun K hK => ?_)
            refine wp_append_own _ _ _ 32 rfl w.heap.size 23 i0 (.agg #[.int .i64 0, .int .i64 0, .string ⟨#[]⟩]) 3 32 Try.underlying32 hi hz0 hz1 hz2 rfl (by omega) u7 acc.length (rowOf acc) rfl (hown2.alloc _) ⟨w2.heap.size, 0, none⟩ 1 1 (rcells r) rfl rfl ?_ (one_rec r) (by unfold maxLen; omega) (by omega) (by simp; omega) ?_
            · exact news_rec w2 _ rfl r _
            intro v' w3 hown3 hgrow _
            have hq : ∀ (o : Nat) (x : Value), w2.cell? ⟨w1.heap.size, o, none⟩ = some x → w3.cell? ⟨w1.heap.size, o, none⟩ = some x := fun o x hx =>
              hgrow.cell (by simp [hx, World.cell?_alloc_some]) h7'
            refine hK.out _ _ ⟨hq _ _ q0, hq _ _ q1, hq _ _ e2⟩ ?_
            clear hK K
            simp only [Act.put, List.setIfInBounds_toArray, List.set_cons_zero, List.set_cons_succ]
            refine only_at (i := 17) rfl (by kernel_rfl) (by rfl) (fun K hK => ?_)
            go_simp
            refine hK.out _ _ ⟨hq _ _ q0, hq _ _ q1, hq _ _ e2⟩ ?_
            clear hK K hq
            refine wpAnyH_done (by kernel_rfl) ?_ _
            refine NoPanic.normal ?_
            clear e2 e3 e4 q0 q1 hs hw1 hw2
            go_wp2
            have hsz3 : w2.heap.size < w3.heap.size := by have := hgrow.size; simp at this; omega
            have hL := HL2.out
            have hN := HN2.out
            have hZ := HZ.out
            rw [HR.out] at hL
            refine ⟨⟨acc ++ [r], k + sizeT (left s k), f', by rw [show (k : Int) + 8 + ln + pd = ((k + sizeT (left s k) : Nat) : Int) from by omega], by omega, by simp; omega, by omega, by simpa using hL, hN, ?_, ?_⟩, by simp [intOf]; omega⟩
            · rw [rowOf_append, rowOf_one]; simpa using hown3
            · refine (hbel2.alloc (by omega) _).drew.grown hgrow (by simp; omega) ?_
              intro b hbk
              exact (h7 b hbk).1
    · go_wp2
      go_ret3
      have hd := rdec_zero (f := f) (show rcode c (left s k) = 0 from by unfold rcode; rw [if_pos]; rw [left_size]; omega)
      have hL := HL.out
      have hN := HN.out
      rw [hd] at hL hN
      simp only [List.append_nil, Prod.mk.injEq] at hL hN
      refine ⟨u7, by rw [hN.1, hN.2]; rfl, ?_, hbel⟩
      rw [hL]; exact hown

theorem refDecode_any (s : ByteArray) (w : World) (hmax : (s.size : Int) ≤ 1000000000000) :
    Calls Try.prog 46 #[.string s] w fun r w' => ∃ v, r = .returned (.tuple #[v, .int .i64 (decN s), .int .i64 (decE s)]) ∧ w'.ownsRow w.heap.size 23 3 v (decL s).length (rowOf (decL s)) ∧ Below w.heap.size w w' := by
  obtain ⟨h1, h2, h3⟩ := rdec_false (s.size + 1) s 0
  have e1 : rdL false s = decL s := h1
  have e2 : rdN false s = decN s := h2
  have e3 : (if rdB false s then (7 : Int) else 0) = decE s := h3
  rw [← e1, ← e2, ← e3]
  clear h1 h2 h3 e1 e2 e3
  cases hB : rdB false s
  all_goals
    go_enter Try.func46, Try.ntmps46
    go_wp2_with fail
    refine (refRead_any s false _ hmax).mono ?_
    rintro e w' ⟨v, rfl, hown, hb⟩
    rw [hB]
    go_wp2
    go_ret3
    exact ⟨v, rfl, hown, hb⟩

end Go.Proofs.Ytlafkpaljibonaa
