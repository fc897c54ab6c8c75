import Derived.Test.YtlafkpaljibonaaGreatJ8
namespace Go.Proofs.YtlafkpaljibonaaGreat
open Go.RowKit

section
variable {o : Nat → Tag} {q : Nat} {w : World} {b : Nat} {m : RM} {lv : Nat → Value} {kv qv : Value}

def RM.slotSt (m : RM) (k : Nat) (x : Int) : RM := { m with slot := upd m.slot k { m.slot k with st := x } }
theorem wcells_slotSt (m : RM) (lv : Nat → Value) (kv qv : Value) (k : Nat) (hk : k < 6) (x : Int) : (wcells m lv kv qv).set (24 + k * 5) (.int .i64 x) = wcells (m.slotSt k x) lv kv qv := by
  rcases k with _ | _ | _ | _ | _ | _ | k <;> first | rfl | omega
theorem RMem.slotSt (h : RMem o q w b m lv kv qv) {k : Nat} (hk : k < 6) (x : Int) :
    RMem o q (w.setCell ⟨b, 24 + k * 5, none⟩ (.int .i64 x)) b (m.slotSt k x) lv kv qv ∧ Fr q o w o (w.setCell ⟨b, 24 + k * 5, none⟩ (.int .i64 x)) := by
  have hoth : ∀ g, g ≠ b → (w.setCell ⟨b, 24 + k * 5, none⟩ (.int .i64 x)).heap[g]? = w.heap[g]? := fun g hg => Below.heap_setCell _ _ _ g hg
  have hbk := h.blk.set (24 + k * 5) (.int .i64 x)
  rw [wcells_slotSt m lv kv qv k hk x] at hbk
  have hm := h.put hbk (by simp [World.setCell]) hoth (fun _ _ => rfl) rfl rfl
  exact ⟨hm, h.fr_put hm (by simp [World.setCell]) (by simp [World.setCell]) (by simp [World.setCell]) (by simp [World.setCell]) hoth⟩

def RM.slotSince (m : RM) (k : Nat) (x : Int) : RM := { m with slot := upd m.slot k { m.slot k with since := x } }
theorem wcells_slotSince (m : RM) (lv : Nat → Value) (kv qv : Value) (k : Nat) (hk : k < 6) (x : Int) : (wcells m lv kv qv).set (24 + k * 5 + 2) (.int .i64 x) = wcells (m.slotSince k x) lv kv qv := by
  rcases k with _ | _ | _ | _ | _ | _ | k <;> first | rfl | omega
theorem RMem.slotSince (h : RMem o q w b m lv kv qv) {k : Nat} (hk : k < 6) (x : Int) :
    RMem o q (w.setCell ⟨b, 24 + k * 5 + 2, none⟩ (.int .i64 x)) b (m.slotSince k x) lv kv qv ∧ Fr q o w o (w.setCell ⟨b, 24 + k * 5 + 2, none⟩ (.int .i64 x)) := by
  have hoth : ∀ g, g ≠ b → (w.setCell ⟨b, 24 + k * 5 + 2, none⟩ (.int .i64 x)).heap[g]? = w.heap[g]? := fun g hg => Below.heap_setCell _ _ _ g hg
  have hbk := h.blk.set (24 + k * 5 + 2) (.int .i64 x)
  rw [wcells_slotSince m lv kv qv k hk x] at hbk
  have hm := h.put hbk (by simp [World.setCell]) hoth (fun _ _ => rfl) rfl rfl
  exact ⟨hm, h.fr_put hm (by simp [World.setCell]) (by simp [World.setCell]) (by simp [World.setCell]) (by simp [World.setCell]) hoth⟩

def RM.slotServed (m : RM) (k : Nat) (x : Int) : RM := { m with slot := upd m.slot k { m.slot k with served := x } }
theorem wcells_slotServed (m : RM) (lv : Nat → Value) (kv qv : Value) (k : Nat) (hk : k < 6) (x : Int) : (wcells m lv kv qv).set (24 + k * 5 + 1) (.int .i64 x) = wcells (m.slotServed k x) lv kv qv := by
  rcases k with _ | _ | _ | _ | _ | _ | k <;> first | rfl | omega
theorem RMem.slotServed (h : RMem o q w b m lv kv qv) {k : Nat} (hk : k < 6) (x : Int) :
    RMem o q (w.setCell ⟨b, 24 + k * 5 + 1, none⟩ (.int .i64 x)) b (m.slotServed k x) lv kv qv ∧ Fr q o w o (w.setCell ⟨b, 24 + k * 5 + 1, none⟩ (.int .i64 x)) := by
  have hoth : ∀ g, g ≠ b → (w.setCell ⟨b, 24 + k * 5 + 1, none⟩ (.int .i64 x)).heap[g]? = w.heap[g]? := fun g hg => Below.heap_setCell _ _ _ g hg
  have hbk := h.blk.set (24 + k * 5 + 1) (.int .i64 x)
  rw [wcells_slotServed m lv kv qv k hk x] at hbk
  have hm := h.put hbk (by simp [World.setCell]) hoth (fun _ _ => rfl) rfl rfl
  exact ⟨hm, h.fr_put hm (by simp [World.setCell]) (by simp [World.setCell]) (by simp [World.setCell]) (by simp [World.setCell]) hoth⟩

def RM.slotKey (m : RM) (k : Nat) (x : Nat) : RM := { m with slot := upd m.slot k { m.slot k with key := x } }
theorem wcells_slotKey (m : RM) (lv : Nat → Value) (kv qv : Value) (k : Nat) (hk : k < 6) (x : Nat) : (wcells m lv kv qv).set (24 + k * 5 + 4) (.int .i64 (x : Nat)) = wcells (m.slotKey k x) lv kv qv := by
  rcases k with _ | _ | _ | _ | _ | _ | k <;> first | rfl | omega
theorem RMem.slotKey (h : RMem o q w b m lv kv qv) {k : Nat} (hk : k < 6) (x : Nat) :
    RMem o q (w.setCell ⟨b, 24 + k * 5 + 4, none⟩ (.int .i64 (x : Nat))) b (m.slotKey k x) lv kv qv ∧ Fr q o w o (w.setCell ⟨b, 24 + k * 5 + 4, none⟩ (.int .i64 (x : Nat))) := by
  have hoth : ∀ g, g ≠ b → (w.setCell ⟨b, 24 + k * 5 + 4, none⟩ (.int .i64 (x : Nat))).heap[g]? = w.heap[g]? := fun g hg => Below.heap_setCell _ _ _ g hg
  have hbk := h.blk.set (24 + k * 5 + 4) (.int .i64 (x : Nat))
  rw [wcells_slotKey m lv kv qv k hk x] at hbk
  have hm := h.put hbk (by simp [World.setCell]) hoth (fun _ _ => rfl) rfl rfl
  exact ⟨hm, h.fr_put hm (by simp [World.setCell]) (by simp [World.setCell]) (by simp [World.setCell]) (by simp [World.setCell]) hoth⟩

def RM.slotOld (m : RM) (k : Nat) (x : Bool) : RM := { m with slot := upd m.slot k { m.slot k with old := x } }
theorem wcells_slotOld (m : RM) (lv : Nat → Value) (kv qv : Value) (k : Nat) (hk : k < 6) (x : Bool) : (wcells m lv kv qv).set (24 + k * 5 + 3) (.bool x) = wcells (m.slotOld k x) lv kv qv := by
  rcases k with _ | _ | _ | _ | _ | _ | k <;> first | rfl | omega
theorem RMem.slotOld (h : RMem o q w b m lv kv qv) {k : Nat} (hk : k < 6) (x : Bool) :
    RMem o q (w.setCell ⟨b, 24 + k * 5 + 3, none⟩ (.bool x)) b (m.slotOld k x) lv kv qv ∧ Fr q o w o (w.setCell ⟨b, 24 + k * 5 + 3, none⟩ (.bool x)) := by
  have hoth : ∀ g, g ≠ b → (w.setCell ⟨b, 24 + k * 5 + 3, none⟩ (.bool x)).heap[g]? = w.heap[g]? := fun g hg => Below.heap_setCell _ _ _ g hg
  have hbk := h.blk.set (24 + k * 5 + 3) (.bool x)
  rw [wcells_slotOld m lv kv qv k hk x] at hbk
  have hm := h.put hbk (by simp [World.setCell]) hoth (fun _ _ => rfl) rfl rfl
  exact ⟨hm, h.fr_put hm (by simp [World.setCell]) (by simp [World.setCell]) (by simp [World.setCell]) (by simp [World.setCell]) hoth⟩

theorem RM.lease_four (m : RM) (k s : Nat) (L : List RKey) (hL : L = m.keys.set k { m.key k with is := 2 }) :
    (((({ m with keys := L } : RM).slotSt s 3).slotSince s m.time).slotServed s (wrap64 ((m.slot s).served + 1))).slotKey s k = m.leaseAt k s := by
  subst hL
  simp only [RM.slotSt, RM.slotSince, RM.slotServed, RM.slotKey, RM.leaseAt, upd_same, RM.mk.injEq, true_and, and_true]
  funext i
  simp only [upd]
  split <;> rfl

set_option maxRecDepth 100000 in
set_option maxHeartbeats 8000000 in
theorem rSettle_any (h : RMem o q w b m lv kv qv) (hwf : m.wf) (hmax : m.queue.length ≤ 1000000000000) :
    Calls Tryz.prog 32 #[.pointer (some ⟨b, 0, none⟩)] w fun r w' => r = .returned (.tuple #[]) ∧ RMem o q w' b m.settle lv kv qv ∧ Fr q o w o w' := by
  unfold RM.settle RM.startAll
  obtain ⟨ak, ck, rfl, hkn, -⟩ := h.klist
  go_enter Tryz.func32, Tryz.ntmps32
  go_wp2_with fail
  refine (count_any h 0).mono ?_
  rintro e w1 ⟨rfl, rfl⟩
  go_wp2_with fail
  go_loopw [2] (fun n w' => ∃ (M : RM) (f : Nat), n = .int .i64 (M.cnt 0) ∧ RMem o q w' b M lv (.slice ak m.keys.length ck) qv ∧ Fr q o w1 o w' ∧ m.startN 6 = M.startN f ∧ M.cnt 0 ≤ f ∧ M.set = m.set ∧ M.wf ∧ M.keys = m.keys ∧ M.queue = m.queue) (fun n _ => (intOf n).toNat)
  case atStart => exact ⟨m, 6, rfl, h, Fr.refl h.clean, rfl, (m.cntTo_bd 0 6).2, rfl, hwf, rfl, rfl⟩
  case round =>
    obtain ⟨M, f, rfl, hM, hfr, hst, hcf, hset, hwfM, hkeys, hqueue⟩ := hrel
    have HST : Hid _ := hst
    have hkl : M.keys.length = m.keys.length := by rw [hkeys]
    have hmx : M.queue.length ≤ 1000000000000 := by rw [hqueue]; exact hmax
    have HK : Hid _ := hkeys
    have HQ : Hid _ := hqueue
    clear hst hkeys hqueue
    have hbd : 0 ≤ M.cnt 0 ∧ M.cnt 0 ≤ 6 := M.cntTo_bd 0 6
    have cc := hM.chc
    have cd := hM.dync
    have hch := hwf.ch.1
    rw [hset] at cc cd
    have HSET : Hid _ := hset
    clear hset
    cases hd : m.set.dyn with
    | true =>
        have HG : (!m.set.dyn && decide (6 - M.cnt 0 < m.set.ch)) = false := by rw [hd]; rfl
        rw [hd] at cd
        clear hd
        have hfin : Hid (m.startN 6 = M) := by
          have e := HST.out
          have hM2 : M.startN f = M := by
            cases f with
            | zero => rfl
            | succ f => simp only [RM.startN, HSET.out, HG]; rfl
          rw [hM2] at e; exact e
        clear HG HK HQ HST HSET h hwf hmax hcf
        go_wp2
        go_loopg [3, 4] 6 (fun g _ _ w' => ∃ M' : RM, RMem o q w' b M' lv (.slice ak m.keys.length ck) qv ∧ Fr q o w1 o w' ∧ M.leaseN 6 = M'.leaseN g ∧ M'.cnt 2 ≤ g ∧ M'.wf ∧ M'.queue.length ≤ 1000000000000 ∧ M'.keys.length = m.keys.length)
        case atStart => exact ⟨M, hM, hfr, rfl, (M.cntTo_bd 2 6).2, hwfM, hmx, hkl⟩
        case round =>
          obtain ⟨M', hM', hfr', heq', hcnt', hwf', hmx', hkl'⟩ := hrel
          have HE : Hid _ := heq'
          clear heq' hM hfr hwfM hmx hkl
          cases hb : M'.back with
          | nil =>
            have hfin2 : Hid ((m.startN 6).leaseN 6 = M') := by
              show _ = _
              rw [hfin.out, HE.out]
              cases gk with
              | zero => rfl
              | succ g => simp only [RM.leaseN, hb]
            have kb : Hid (∀ w', RMem o q w' b M' lv (.slice ak m.keys.length ck) qv → Calls Tryz.prog 69 #[.pointer (some ⟨b, 0, none⟩)] w' fun r w'' => ∃ v, r = .returned v ∧ w''.ownsRow w'.heap.size 3 1 v 0 (numCells []) ∧ Below w'.heap.size w' w'') := fun w' h' => by have := rback_any h' hwf' hmx'; rw [hb] at this; exact this
            have kfi : Hid (∀ w', RMem o q w' b M' lv (.slice ak m.keys.length ck) qv → Calls Tryz.prog 70 #[.pointer (some ⟨b, 0, none⟩), .int .i64 2] w' fun r w'' => r = .returned (.int .i64 (plcI (M'.first 2))) ∧ w'' = w') := fun w' h' => first_slot h' 2
            go_wp2_with fail
            refine (kb.out _ hM').mono ?_
            rintro e w2 ⟨v, rfl, hv, hb2⟩
            obtain ⟨al, cl, rfl, hln, -⟩ := own_slice hv
            have hM2 := hM'.below hb2
            go_wp2_with fail
            refine (kfi.out _ hM2).mono ?_
            rintro e w3 ⟨rfl, rfl⟩
            go_wp2
            exact bodyPost_ret (v := .tuple #[]) (by simp [results, Tryz.results32, go_sem]) rfl ⟨rfl, by rw [hfin2.out]; exact hM2, hfr'.below hb2⟩
          | cons k l =>
            obtain ⟨nl, hnl⟩ : ∃ nl, nl = l.length + 1 := ⟨_, rfl⟩
            have hnl0 : ¬ nl = 0 := by omega
            have hnl1 : 0 < nl := by omega
            have kb : Hid (∀ w', RMem o q w' b M' lv (.slice ak m.keys.length ck) qv → Calls Tryz.prog 69 #[.pointer (some ⟨b, 0, none⟩)] w' fun r w'' => ∃ v, r = .returned v ∧ w''.ownsRow w'.heap.size 3 1 v nl (numCells (k :: l)) ∧ Below w'.heap.size w' w'') := fun w' h' => by have := rback_any h' hwf' hmx'; rw [hb] at this; rw [hnl]; exact this
            have HNL : Hid _ := hnl
            clear hnl
            cases hf : M'.first 2 with
            | none =>
              have hfin2 : Hid ((m.startN 6).leaseN 6 = M') := by
                show _ = _
                rw [hfin.out, HE.out]
                cases gk with
                | zero => rfl
                | succ g => simp only [RM.leaseN, hb, hf]
              have kfi : Hid (∀ w', RMem o q w' b M' lv (.slice ak m.keys.length ck) qv → Calls Tryz.prog 70 #[.pointer (some ⟨b, 0, none⟩), .int .i64 2] w' fun r w'' => r = .returned (.int .i64 (-1)) ∧ w'' = w') := fun w' h' => by have := first_slot h' 2; rw [hf] at this; exact this
              go_wp2_with fail
              refine (kb.out _ hM').mono ?_
              rintro e w2 ⟨v, rfl, hv, hb2⟩
              obtain ⟨al, cl, rfl, hln, -⟩ := own_slice hv
              have hM2 := hM'.below hb2
              go_wp2_with fail
              refine (kfi.out _ hM2).mono ?_
              rintro e w3 ⟨rfl, rfl⟩
              go_wp2
              exact bodyPost_ret (v := .tuple #[]) (by simp [results, Tryz.results32, go_sem]) rfl ⟨rfl, by rw [hfin2.out]; exact hM2, hfr'.below hb2⟩
            | some s =>
              have kfi : Hid (∀ w', RMem o q w' b M' lv (.slice ak m.keys.length ck) qv → Calls Tryz.prog 70 #[.pointer (some ⟨b, 0, none⟩), .int .i64 2] w' fun r w'' => r = .returned (.int .i64 (s : Nat)) ∧ w'' = w') := fun w' h' => by have := first_slot h' 2; rw [hf] at this; exact this
              obtain ⟨hs6, hcl, hpos⟩ := RM.cnt_lease M' k s hf
              have hkk : k < M'.keys.length := hwf'.q k (RM.back_mem M' hb).1
              have HL : Hid ((m.startN 6).leaseN 6 = (M'.leaseAt k s).leaseN (gk - 1)) := by
                show _ = _
                obtain ⟨g', rfl⟩ : ∃ g', gk = g' + 1 := ⟨gk - 1, by omega⟩
                rw [hfin.out, HE.out]
                simp only [RM.leaseN, hb, hf, Nat.add_sub_cancel]
              have HL2 : Hid (M.leaseN 6 = (M'.leaseAt k s).leaseN (gk - 1)) := by
                show _ = _
                obtain ⟨g', rfl⟩ : ∃ g', gk = g' + 1 := ⟨gk - 1, by omega⟩
                rw [HE.out]
                simp only [RM.leaseN, hb, hf, Nat.add_sub_cancel]
              have hwfl := RM.wf_lease hwf' k s hkk
              have hend : Hid ((M'.leaseAt k s).cnt 2 ≤ ((gk - 1 : Nat) : Int)) := by show _ ≤ _; omega
              have hlen2 : (M'.leaseAt k s).keys.length = m.keys.length := by rw [← hkl']; simp [RM.leaseAt]
              have hmx2 : (M'.leaseAt k s).queue.length ≤ 1000000000000 := hmx'
              have hgk : gk - 1 < gk := by omega
              have hke := M'.key_eq hkk
              have hcells := rkeyCells_is M'.keys k hkk 2
              obtain ⟨L, hL⟩ : ∃ L, M'.keys.set k { M'.keys[k] with is := 2 } = L := ⟨_, rfl⟩
              have hlenL : L.length = M'.keys.length := by rw [← hL]; simp
              have HFOUR : Hid (((((({ M' with keys := L } : RM).slotSt s 3).slotSince s M'.time).slotServed s (wrap64 ((M'.slot s).served + 1))).slotKey s k) = M'.leaseAt k s) := RM.lease_four M' k s L (by rw [← hL, hke])
              rw [hL] at hcells
              have HC : Hid _ := hcells
              clear hcells hL hke HE hb hf hcl hpos hcnt'
              have hbl := hM'.blk.lt
              obtain ⟨ak', ck', e', -, hrow⟩ := hM'.klist
              rw [hkl'] at e'
              simp only [Value.slice.injEq, true_and] at e'
              obtain ⟨e1, e2⟩ := e'
              subst e1 e2
              obtain ⟨g, rfl, hg, hgb, hgo, -, -, -, -, -⟩ := hrow k hkk
              have hrow2 : Hid (∀ w', RMem o q w' b M' lv (.slice (some ⟨g, 0, none⟩) m.keys.length ck) qv → w'.cell? ⟨g, k * 4 + 3, none⟩ = some (.int .i64 M'.keys[k].is) ∧ ∀ j, w'.frozen? ⟨g, j, none⟩ = false) := by
                intro w' h'
                obtain ⟨ak'', ck'', e, -, hr'⟩ := h'.klist
                rw [hkl'] at e
                simp only [Value.slice.injEq, true_and] at e
                obtain ⟨rfl, rfl⟩ := e
                obtain ⟨g', e', -, -, -, fg', -, -, -, d3⟩ := hr' k hkk
                simp only [Option.some.injEq, Addr.mk.injEq, and_true] at e'
                subst e'
                exact ⟨d3, fg'⟩
              clear hrow
              have hkI : (k : Int) < m.keys.length := by omega
              have hnlI : ((nl : Int) == 0) = false := by simp; omega
              have hsI : decide ((s : Int) < 0) = false := by simp
              have hs6I : (s : Int) < 6 := by omega
              have hwr : IntKind.i64.wrap ((M'.slot s).served + 1) = wrap64 ((M'.slot s).served + 1) := IntWalk.i64_left _
              go_wp2_with fail
              refine (kb.out _ hM').mono ?_
              rintro e w2 ⟨v, rfl, hv, hb2⟩
              obtain ⟨al, cl, rfl, hln, hal⟩ := own_slice hv
              obtain ⟨gl, rfl, hgl1, hgl2⟩ := hal hnl1
              have hM2 := hM'.below hb2
              have l0 : w2.cell? ⟨gl, 0, none⟩ = some (.int .i64 (k : Nat)) := by
                have := hv.cellAt 0 (by omega)
                rw [this]; rfl
              have hgg : gl ≠ g := by omega
              have hgb2 : gl ≠ b := by omega
              have frA := hfr'.below hb2
              clear kb hv hb2 hfr' hM'
              go_wp2_with fail
              refine (kfi.out _ hM2).mono ?_
              rintro e w3 ⟨rfl, rfl⟩
              clear kfi
              have z0 := hM2.keysv
              obtain ⟨c3, fg⟩ := hrow2.out _ hM2
              go_wp2_with fail
              have hMd := hM2.drew
              have frB := frA.below (Below.refl _ _).drew
              have l0d : w3.drew.cell? ⟨gl, 0, none⟩ = some (.int .i64 (k : Nat)) := l0
              refine wp_region_noPanic ?_
              refine wp_region_held_drew (S := fun w' => w'.cell? ⟨b, 54, none⟩ = some (.slice (some ⟨g, 0, none⟩) m.keys.length ck) ∧ w'.cell? ⟨gl, 0, none⟩ = some (.int .i64 (k : Nat))) (by kernel_rfl) ⟨z0, l0⟩ (fun hHeld => ?_)
              refine take_at (i := 0) (v := ?_) rfl (by kernel_rfl) (by kernel_rfl) (by kernel_rfl) (fun _ _ _ h => h) (by rfl) ?_ (by assumption) ?_
              rotate_left
              · (intro wx hSw; obtain ⟨x0, x1⟩ := hSw; go_simp; with_reducible rfl)
              simp only [Act.put, List.setIfInBounds_toArray, List.set_cons_zero, List.set_cons_succ]
              refine take_at (i := 1) (v := ?_) rfl (by kernel_rfl) (by kernel_rfl) (by kernel_rfl) (fun _ _ _ h => h) (by rfl) ?_ (by assumption) ?_
              rotate_left
              · (intro wx hSw; obtain ⟨x0, x1⟩ := hSw; go_simp; with_reducible rfl)
              simp only [Act.put, List.setIfInBounds_toArray, List.set_cons_zero, List.set_cons_succ]
              refine take_at (i := 2) (v := ?_) rfl (by kernel_rfl) (by kernel_rfl) (by kernel_rfl) (fun _ _ _ h => h) (by rfl) ?_ (by assumption) ?_
              rotate_left
              · (intro wx hSw; obtain ⟨x0, x1⟩ := hSw; go_simp; with_reducible rfl)
              simp only [Act.put, List.setIfInBounds_toArray, List.set_cons_zero, List.set_cons_succ]
              refine take_at (i := 3) (v := ?_) rfl (by kernel_rfl) (by kernel_rfl) (by kernel_rfl) (fun _ _ _ h => h) (by rfl) ?_ (by assumption) ?_
              rotate_left
              · (intro wx hSw; obtain ⟨x0, x1⟩ := hSw; go_simp; with_reducible rfl)
              simp only [Act.put, List.setIfInBounds_toArray, List.set_cons_zero, List.set_cons_succ]
              refine take_at (i := 4) (v := ?_) rfl (by kernel_rfl) (by kernel_rfl) (by kernel_rfl) (fun _ _ _ h => h) (by rfl) ?_ (by assumption) ?_
              rotate_left
              · (intro wx hSw; obtain ⟨x0, x1⟩ := hSw; go_simp; with_reducible rfl)
              simp only [Act.put, List.setIfInBounds_toArray, List.set_cons_zero, List.set_cons_succ]
              refine take_at (i := 5) (v := ?_) rfl (by kernel_rfl) (by kernel_rfl) (by kernel_rfl) (fun _ _ _ h => h) (by rfl) ?_ (by assumption) ?_
              rotate_left
              · (intro wx hSw; obtain ⟨x0, x1⟩ := hSw; go_simp; with_reducible rfl)
              simp only [Act.put, List.setIfInBounds_toArray, List.set_cons_zero, List.set_cons_succ]
              refine take_at (i := 6) (v := ?_) rfl (by kernel_rfl) (by kernel_rfl) (by kernel_rfl) (fun _ _ _ h => h) (by rfl) ?_ (by assumption) ?_
              rotate_left
              · (intro wx hSw; obtain ⟨x0, x1⟩ := hSw; go_simp; with_reducible rfl)
              simp only [Act.put, List.setIfInBounds_toArray, List.set_cons_zero, List.set_cons_succ]
              refine take_at (i := 7) (v := ?_) rfl (by kernel_rfl) (by kernel_rfl) (by kernel_rfl) (fun _ _ _ h => h) (by rfl) ?_ (by assumption) ?_
              rotate_left
              · (intro wx hSw; obtain ⟨x0, x1⟩ := hSw; go_simp; with_reducible rfl)
              simp only [Act.put, List.setIfInBounds_toArray, List.set_cons_zero, List.set_cons_succ]
              refine take_at (i := 8) (v := ?_) rfl (by kernel_rfl) (by kernel_rfl) (by kernel_rfl) (fun _ _ _ h => h) (by rfl) ?_ (by assumption) ?_
              rotate_left
              · (intro wx hSw; obtain ⟨x0, x1⟩ := hSw; go_simp; with_reducible rfl)
              simp only [Act.put, List.setIfInBounds_toArray, List.set_cons_zero, List.set_cons_succ]
              refine only_at (i := 9) rfl (by kernel_rfl) (by rfl) (fun K hK => ?_)
              go_simp
              obtain ⟨hMA, frC⟩ := hMd.setKey hkl'.symm (k * 4 + 3) (.int .i64 2) L hlenL HC.out
              have l0A : (w3.drew.setCell ⟨g, k * 4 + 3, none⟩ (.int .i64 2)).cell? ⟨gl, 0, none⟩ = some (.int .i64 (k : Nat)) := by
                rw [← l0d]; exact World.cell?_of_block (Below.heap_setCell _ _ _ gl hgg)
              have frD := frB.trans frC
              refine hK.out _ (w3.drew.setCell ⟨g, k * 4 + 3, none⟩ (.int .i64 2)) ⟨hMA.keysv, l0A⟩ ?_
              clear hK K hHeld
              refine wpAnyH_done (by kernel_rfl) ?_ _
              refine NoPanic.normal ?_
              clear z0 c3 fg l0 l0d hMd frA frB frC hM2
              generalize w3.drew.setCell ⟨g, k * 4 + 3, none⟩ (.int .i64 2) = wA at *
              obtain ⟨c0, -⟩ := hMA.slotc hs6
              have fz := hMA.frozen
              obtain ⟨hMB, frE⟩ := hMA.slotSt hs6 3
              go_wp2_with fail
              have l0B : (wA.setCell ⟨b, 24 + s * 5, none⟩ (.int .i64 3)).cell? ⟨gl, 0, none⟩ = some (.int .i64 (k : Nat)) := by
                rw [← l0A]; exact World.cell?_of_block (Below.heap_setCell _ _ _ gl hgb2)
              have frF := frD.trans frE
              clear c0 fz l0A frD frE hMA
              generalize wA.setCell ⟨b, 24 + s * 5, none⟩ (.int .i64 3) = wB at *
              have t0 := hMB.timec
              have hMBd := hMB.drew
              obtain ⟨hMC, frG⟩ := hMBd.slotSince hs6 M'.time
              obtain ⟨-, -, c2, -, -⟩ := hMB.slotc hs6
              have fz := hMB.frozen
              refine wp_region_noPanic ?_
              refine wp_region_held_drew (S := fun w' => w'.cell? ⟨b, 7, none⟩ = some (.int .i64 M'.time)) (by kernel_rfl) t0 (fun hHeld => ?_)
              refine take_at (i := 0) (v := ?_) rfl (by kernel_rfl) (by kernel_rfl) (by kernel_rfl) (fun _ _ _ h => h) (by rfl) ?_ (by assumption) ?_
              rotate_left
              · (intro wx hSw; go_simp; with_reducible rfl)
              simp only [Act.put, List.setIfInBounds_toArray, List.set_cons_zero, List.set_cons_succ]
              refine take_at (i := 1) (v := ?_) rfl (by kernel_rfl) (by kernel_rfl) (by kernel_rfl) (fun _ _ _ h => h) (by rfl) ?_ (by assumption) ?_
              rotate_left
              · (intro wx hSw; go_simp; with_reducible rfl)
              simp only [Act.put, List.setIfInBounds_toArray, List.set_cons_zero, List.set_cons_succ]
              refine take_at (i := 2) (v := ?_) rfl (by kernel_rfl) (by kernel_rfl) (by kernel_rfl) (fun _ _ _ h => h) (by rfl) ?_ (by assumption) ?_
              rotate_left
              · (intro wx hSw; go_simp; with_reducible rfl)
              simp only [Act.put, List.setIfInBounds_toArray, List.set_cons_zero, List.set_cons_succ]
              refine take_at (i := 3) (v := ?_) rfl (by kernel_rfl) (by kernel_rfl) (by kernel_rfl) (fun _ _ _ h => h) (by rfl) ?_ (by assumption) ?_
              rotate_left
              · (intro wx hSw; go_simp; with_reducible rfl)
              simp only [Act.put, List.setIfInBounds_toArray, List.set_cons_zero, List.set_cons_succ]
              refine take_at (i := 4) (v := ?_) rfl (by kernel_rfl) (by kernel_rfl) (by kernel_rfl) (fun _ _ _ h => h) (by rfl) ?_ (by assumption) ?_
              rotate_left
              · (intro wx hSw; go_simp; with_reducible rfl)
              simp only [Act.put, List.setIfInBounds_toArray, List.set_cons_zero, List.set_cons_succ]
              refine take_at (i := 5) (v := ?_) rfl (by kernel_rfl) (by kernel_rfl) (by kernel_rfl) (fun _ _ _ h => h) (by rfl) ?_ (by assumption) ?_
              rotate_left
              · (intro wx hSw; go_simp; with_reducible rfl)
              simp only [Act.put, List.setIfInBounds_toArray, List.set_cons_zero, List.set_cons_succ]
              refine take_at (i := 6) (v := ?_) rfl (by kernel_rfl) (by kernel_rfl) (by kernel_rfl) (fun _ _ _ h => h) (by rfl) ?_ (by assumption) ?_
              rotate_left
              · (intro wx hSw; go_simp; with_reducible rfl)
              simp only [Act.put, List.setIfInBounds_toArray, List.set_cons_zero, List.set_cons_succ]
              refine take_at (i := 7) (v := ?_) rfl (by kernel_rfl) (by kernel_rfl) (by kernel_rfl) (fun _ _ _ h => h) (by rfl) ?_ (by assumption) ?_
              rotate_left
              · (intro wx hSw; go_simp; with_reducible rfl)
              simp only [Act.put, List.setIfInBounds_toArray, List.set_cons_zero, List.set_cons_succ]
              refine take_at (i := 8) (v := ?_) rfl (by kernel_rfl) (by kernel_rfl) (by kernel_rfl) (fun _ _ _ h => h) (by rfl) ?_ (by assumption) ?_
              rotate_left
              · (intro wx hSw; go_simp; with_reducible rfl)
              simp only [Act.put, List.setIfInBounds_toArray, List.set_cons_zero, List.set_cons_succ]
              refine take_at (i := 9) (v := ?_) rfl (by kernel_rfl) (by kernel_rfl) (by kernel_rfl) (fun _ _ _ h => h) (by rfl) ?_ (by assumption) ?_
              rotate_left
              · (intro wx hSw; go_simp; with_reducible rfl)
              simp only [Act.put, List.setIfInBounds_toArray, List.set_cons_zero, List.set_cons_succ]
              refine only_at (i := 10) rfl (by kernel_rfl) (by rfl) (fun K hK => ?_)
              go_simp
              have l0C : (wB.drew.setCell ⟨b, 24 + s * 5 + 2, none⟩ (.int .i64 M'.time)).cell? ⟨gl, 0, none⟩ = some (.int .i64 (k : Nat)) := by
                have : wB.drew.cell? ⟨gl, 0, none⟩ = some (.int .i64 (k : Nat)) := l0B
                rw [← this]; exact World.cell?_of_block (Below.heap_setCell _ _ _ gl hgb2)
              refine hK.out _ (wB.drew.setCell ⟨b, 24 + s * 5 + 2, none⟩ (.int .i64 M'.time)) hMC.timec ?_
              clear hK K hHeld
              refine wpAnyH_done (by kernel_rfl) ?_ _
              refine NoPanic.normal ?_
              have frH := (frF.below (Below.refl _ _).drew).trans frG
              clear t0 c2 fz l0B frF frG hMBd hMB
              generalize wB.drew.setCell ⟨b, 24 + s * 5 + 2, none⟩ (.int .i64 M'.time) = wC at *
              go_wp2_with fail
              have hMCd := hMC.drew
              have hsv : (((({ M' with keys := L } : RM).slotSt s 3).slotSince s M'.time).slot s).served = (M'.slot s).served := by simp [RM.slotSt, RM.slotSince]
              obtain ⟨-, c1, -, -, -⟩ := hMCd.slotc hs6
              rw [hsv] at c1
              have fz := hMCd.frozen
              obtain ⟨hMD, frI⟩ := hMCd.slotServed hs6 (wrap64 ((M'.slot s).served + 1))
              refine wp_region_noPanic ?_
              refine wp_region_held_drew (S := fun w' => True) (by kernel_rfl) trivial (fun hHeld => ?_)
              refine take_at (i := 0) (v := ?_) rfl (by kernel_rfl) (by kernel_rfl) (by kernel_rfl) (fun _ _ _ h => h) (by rfl) ?_ (by assumption) ?_
              rotate_left
              · (intro wx hSw; go_simp; with_reducible rfl)
              simp only [Act.put, List.setIfInBounds_toArray, List.set_cons_zero, List.set_cons_succ]
              refine take_at (i := 1) (v := ?_) rfl (by kernel_rfl) (by kernel_rfl) (by kernel_rfl) (fun _ _ _ h => h) (by rfl) ?_ (by assumption) ?_
              rotate_left
              · (intro wx hSw; go_simp; with_reducible rfl)
              simp only [Act.put, List.setIfInBounds_toArray, List.set_cons_zero, List.set_cons_succ]
              refine take_at (i := 2) (v := ?_) rfl (by kernel_rfl) (by kernel_rfl) (by kernel_rfl) (fun _ _ _ h => h) (by rfl) ?_ (by assumption) ?_
              rotate_left
              · (intro wx hSw; go_simp; with_reducible rfl)
              simp only [Act.put, List.setIfInBounds_toArray, List.set_cons_zero, List.set_cons_succ]
              refine take_at (i := 3) (v := ?_) rfl (by kernel_rfl) (by kernel_rfl) (by kernel_rfl) (fun _ _ _ h => h) (by rfl) ?_ (by assumption) ?_
              rotate_left
              · (intro wx hSw; go_simp; with_reducible rfl)
              simp only [Act.put, List.setIfInBounds_toArray, List.set_cons_zero, List.set_cons_succ]
              refine take_at (i := 4) (v := ?_) rfl (by kernel_rfl) (by kernel_rfl) (by kernel_rfl) (fun _ _ _ h => h) (by rfl) ?_ (by assumption) ?_
              rotate_left
              · (intro wx hSw; go_simp; with_reducible rfl)
              simp only [Act.put, List.setIfInBounds_toArray, List.set_cons_zero, List.set_cons_succ]
              refine take_at (i := 5) (v := ?_) rfl (by kernel_rfl) (by kernel_rfl) (by kernel_rfl) (fun _ _ _ h => h) (by rfl) ?_ (by assumption) ?_
              rotate_left
              · (intro wx hSw; go_simp; with_reducible rfl)
              simp only [Act.put, List.setIfInBounds_toArray, List.set_cons_zero, List.set_cons_succ]
              refine take_at (i := 8) (v := ?_) rfl (by kernel_rfl) (by kernel_rfl) (by kernel_rfl) (fun _ _ _ h => h) (by rfl) ?_ (by assumption) ?_
              rotate_left
              · (intro wx hSw; go_simp; with_reducible rfl)
              simp only [Act.put, List.setIfInBounds_toArray, List.set_cons_zero, List.set_cons_succ]
              refine take_at (i := 9) (v := ?_) rfl (by kernel_rfl) (by kernel_rfl) (by kernel_rfl) (fun _ _ _ h => h) (by rfl) ?_ (by assumption) ?_
              rotate_left
              · (intro wx hSw; go_simp; with_reducible rfl)
              simp only [Act.put, List.setIfInBounds_toArray, List.set_cons_zero, List.set_cons_succ]
              refine only_at (i := 6) rfl (by kernel_rfl) (by rfl) (fun K hK => ?_)
              go_simp
              refine hK.out _ _ trivial ?_
              clear hK K
              try simp only [Act.put, List.setIfInBounds_toArray, List.set_cons_zero, List.set_cons_succ]
              refine take_at (i := 7) (v := ?_) rfl (by kernel_rfl) (by kernel_rfl) (by kernel_rfl) (fun _ _ _ h => h) (by rfl) ?_ (by assumption) ?_
              rotate_left
              · (intro wx hSw; go_simp; with_reducible rfl)
              simp only [Act.put, List.setIfInBounds_toArray, List.set_cons_zero, List.set_cons_succ]
              refine take_at (i := 10) (v := ?_) rfl (by kernel_rfl) (by kernel_rfl) (by kernel_rfl) (fun _ _ _ h => h) (by rfl) ?_ (by assumption) ?_
              rotate_left
              · (intro wx hSw; go_simp; with_reducible rfl)
              simp only [Act.put, List.setIfInBounds_toArray, List.set_cons_zero, List.set_cons_succ]
              refine take_at (i := 11) (v := ?_) rfl (by kernel_rfl) (by kernel_rfl) (by kernel_rfl) (fun _ _ _ h => h) (by rfl) ?_ (by assumption) ?_
              rotate_left
              · (intro wx hSw; go_simp; with_reducible rfl)
              simp only [Act.put, List.setIfInBounds_toArray, List.set_cons_zero, List.set_cons_succ]
              refine only_at (i := 12) rfl (by kernel_rfl) (by rfl) (fun K hK => ?_)
              go_simp
              try rw [hwr]
              refine hK.out _ (wC.drew.setCell ⟨b, 24 + s * 5 + 1, none⟩ (.int .i64 (wrap64 ((M'.slot s).served + 1)))) trivial ?_
              clear hK K hHeld
              refine wpAnyH_done (by kernel_rfl) ?_ _
              refine NoPanic.normal ?_
              have l0D : (wC.drew.setCell ⟨b, 24 + s * 5 + 1, none⟩ (.int .i64 (wrap64 ((M'.slot s).served + 1)))).cell? ⟨gl, 0, none⟩ = some (.int .i64 (k : Nat)) := by
                have : wC.drew.cell? ⟨gl, 0, none⟩ = some (.int .i64 (k : Nat)) := l0C
                rw [← this]; exact World.cell?_of_block (Below.heap_setCell _ _ _ gl hgb2)
              have frJ := (frH.below (Below.refl _ _).drew).trans frI
              clear hsv c1 fz l0C frH frI hMCd hMC
              generalize wC.drew.setCell ⟨b, 24 + s * 5 + 1, none⟩ (.int .i64 (wrap64 ((M'.slot s).served + 1))) = wD at *
              go_wp2_with fail
              have hMDd := hMD.drew
              obtain ⟨-, -, -, -, c4⟩ := hMDd.slotc hs6
              have fz := hMDd.frozen
              obtain ⟨hME, frK⟩ := hMDd.slotKey hs6 k
              rw [HFOUR.out] at hME
              refine wp_region_noPanic ?_
              refine wp_region_held_drew (S := fun w' => w'.cell? ⟨gl, 0, none⟩ = some (.int .i64 (k : Nat))) (by kernel_rfl) l0D (fun hHeld => ?_)
              refine take_at (i := 0) (v := ?_) rfl (by kernel_rfl) (by kernel_rfl) (by kernel_rfl) (fun _ _ _ h => h) (by rfl) ?_ (by assumption) ?_
              rotate_left
              · (intro wx hSw; go_simp; with_reducible rfl)
              simp only [Act.put, List.setIfInBounds_toArray, List.set_cons_zero, List.set_cons_succ]
              refine take_at (i := 1) (v := ?_) rfl (by kernel_rfl) (by kernel_rfl) (by kernel_rfl) (fun _ _ _ h => h) (by rfl) ?_ (by assumption) ?_
              rotate_left
              · (intro wx hSw; go_simp; with_reducible rfl)
              simp only [Act.put, List.setIfInBounds_toArray, List.set_cons_zero, List.set_cons_succ]
              refine take_at (i := 2) (v := ?_) rfl (by kernel_rfl) (by kernel_rfl) (by kernel_rfl) (fun _ _ _ h => h) (by rfl) ?_ (by assumption) ?_
              rotate_left
              · (intro wx hSw; go_simp; with_reducible rfl)
              simp only [Act.put, List.setIfInBounds_toArray, List.set_cons_zero, List.set_cons_succ]
              refine take_at (i := 3) (v := ?_) rfl (by kernel_rfl) (by kernel_rfl) (by kernel_rfl) (fun _ _ _ h => h) (by rfl) ?_ (by assumption) ?_
              rotate_left
              · (intro wx hSw; go_simp; with_reducible rfl)
              simp only [Act.put, List.setIfInBounds_toArray, List.set_cons_zero, List.set_cons_succ]
              refine take_at (i := 4) (v := ?_) rfl (by kernel_rfl) (by kernel_rfl) (by kernel_rfl) (fun _ _ _ h => h) (by rfl) ?_ (by assumption) ?_
              rotate_left
              · (intro wx hSw; go_simp; with_reducible rfl)
              simp only [Act.put, List.setIfInBounds_toArray, List.set_cons_zero, List.set_cons_succ]
              refine take_at (i := 5) (v := ?_) rfl (by kernel_rfl) (by kernel_rfl) (by kernel_rfl) (fun _ _ _ h => h) (by rfl) ?_ (by assumption) ?_
              rotate_left
              · (intro wx hSw; go_simp; with_reducible rfl)
              simp only [Act.put, List.setIfInBounds_toArray, List.set_cons_zero, List.set_cons_succ]
              refine take_at (i := 6) (v := ?_) rfl (by kernel_rfl) (by kernel_rfl) (by kernel_rfl) (fun _ _ _ h => h) (by rfl) ?_ (by assumption) ?_
              rotate_left
              · (intro wx hSw; go_simp; with_reducible rfl)
              simp only [Act.put, List.setIfInBounds_toArray, List.set_cons_zero, List.set_cons_succ]
              refine take_at (i := 7) (v := ?_) rfl (by kernel_rfl) (by kernel_rfl) (by kernel_rfl) (fun _ _ _ h => h) (by rfl) ?_ (by assumption) ?_
              rotate_left
              · (intro wx hSw; go_simp; with_reducible rfl)
              simp only [Act.put, List.setIfInBounds_toArray, List.set_cons_zero, List.set_cons_succ]
              refine take_at (i := 8) (v := ?_) rfl (by kernel_rfl) (by kernel_rfl) (by kernel_rfl) (fun _ _ _ h => h) (by rfl) ?_ (by assumption) ?_
              rotate_left
              · (intro wx hSw; go_simp; with_reducible rfl)
              simp only [Act.put, List.setIfInBounds_toArray, List.set_cons_zero, List.set_cons_succ]
              refine only_at (i := 9) rfl (by kernel_rfl) (by rfl) (fun K hK => ?_)
              go_simp
              have l0E : (wD.drew.setCell ⟨b, 24 + s * 5 + 4, none⟩ (.int .i64 (k : Nat))).cell? ⟨gl, 0, none⟩ = some (.int .i64 (k : Nat)) := by
                have : wD.drew.cell? ⟨gl, 0, none⟩ = some (.int .i64 (k : Nat)) := l0D
                rw [← this]; exact World.cell?_of_block (Below.heap_setCell _ _ _ gl hgb2)
              refine hK.out _ (wD.drew.setCell ⟨b, 24 + s * 5 + 4, none⟩ (.int .i64 (k : Nat))) l0E ?_
              clear hK K hHeld
              refine wpAnyH_done (by kernel_rfl) ?_ _
              refine NoPanic.normal ?_
              have frL := (frJ.below (Below.refl _ _).drew).trans frK
              clear c4 fz l0D l0E frJ frK hMDd hMD
              generalize wD.drew.setCell ⟨b, 24 + s * 5 + 4, none⟩ (.int .i64 (k : Nat)) = wE at *
              go_wp2
              go_roundg (gk - 1)
              case measure => exact hgk
              case rel => exact ⟨M'.leaseAt k s, hME, frL, HL2.out, hend.out, hwfl, hmx2, hlen2⟩
    | false =>
      rw [hd] at cd
      by_cases hgo : 6 - M.cnt 0 < m.set.ch
      · obtain ⟨k, hk, hf0, hstarts, hcnt⟩ := RM.cnt_starts M (by omega)
        have hs := RM.starts_same M
        have hqs := RM.wf_starts hwfM
        have HX : Hid (m.startN 6 = M.starts.startN (f - 1)) := by
          have e := HST.out
          obtain ⟨f', rfl⟩ : ∃ f', f = f' + 1 := ⟨f - 1, by omega⟩
          rw [show M.startN (f' + 1) = cond (!M.set.dyn && decide (6 - M.cnt 0 < M.set.ch)) (M.starts.startN f') M from rfl, HSET.out, hd, decide_eq_true hgo] at e
          exact e
        have HY : Hid (M.starts.set = m.set ∧ M.starts.keys = m.keys ∧ M.starts.queue = m.queue) := ⟨hs.1.trans HSET.out, hs.2.1.trans HK.out, hs.2.2.1.trans HQ.out⟩
        have HC : Hid (M.starts.cnt 0 = M.cnt 0 - 1) := hcnt
        clear hs hstarts hf0 hcnt hd
        go_wp2_with fail
        refine (starts_any hM).mono ?_
        rintro e w2 ⟨rfl, hM2, fr2⟩
        clear cc cd
        go_wp2_with fail
        refine (count_any hM2 0).mono ?_
        rintro e w3 ⟨rfl, rfl⟩
        go_wp2
        have hc := HC.out
        refine ⟨⟨M.starts, f - 1, rfl, hM2, hfr.trans fr2, HX.out, by omega, HY.out.1, hqs, HY.out.2.1, HY.out.2.2⟩, ?_⟩
        simp only [intOf]; omega
      · have HG : (!m.set.dyn && decide (6 - M.cnt 0 < m.set.ch)) = false := by rw [decide_eq_false hgo, Bool.and_false]
        clear hd
        have hfin : Hid (m.startN 6 = M) := by
          have e := HST.out
          have hM2 : M.startN f = M := by
            cases f with
            | zero => rfl
            | succ f => simp only [RM.startN, HSET.out, HG]; rfl
          rw [hM2] at e; exact e
        clear HG HK HQ HST HSET h hwf hmax hcf
        go_wp2
        go_loopg [3, 4] 6 (fun g _ _ w' => ∃ M' : RM, RMem o q w' b M' lv (.slice ak m.keys.length ck) qv ∧ Fr q o w1 o w' ∧ M.leaseN 6 = M'.leaseN g ∧ M'.cnt 2 ≤ g ∧ M'.wf ∧ M'.queue.length ≤ 1000000000000 ∧ M'.keys.length = m.keys.length)
        case atStart => exact ⟨M, hM, hfr, rfl, (M.cntTo_bd 2 6).2, hwfM, hmx, hkl⟩
        case round =>
          obtain ⟨M', hM', hfr', heq', hcnt', hwf', hmx', hkl'⟩ := hrel
          have HE : Hid _ := heq'
          clear heq' hM hfr hwfM hmx hkl
          cases hb : M'.back with
          | nil =>
            have hfin2 : Hid ((m.startN 6).leaseN 6 = M') := by
              show _ = _
              rw [hfin.out, HE.out]
              cases gk with
              | zero => rfl
              | succ g => simp only [RM.leaseN, hb]
            have kb : Hid (∀ w', RMem o q w' b M' lv (.slice ak m.keys.length ck) qv → Calls Tryz.prog 69 #[.pointer (some ⟨b, 0, none⟩)] w' fun r w'' => ∃ v, r = .returned v ∧ w''.ownsRow w'.heap.size 3 1 v 0 (numCells []) ∧ Below w'.heap.size w' w'') := fun w' h' => by have := rback_any h' hwf' hmx'; rw [hb] at this; exact this
            have kfi : Hid (∀ w', RMem o q w' b M' lv (.slice ak m.keys.length ck) qv → Calls Tryz.prog 70 #[.pointer (some ⟨b, 0, none⟩), .int .i64 2] w' fun r w'' => r = .returned (.int .i64 (plcI (M'.first 2))) ∧ w'' = w') := fun w' h' => first_slot h' 2
            go_wp2_with fail
            refine (kb.out _ hM').mono ?_
            rintro e w2 ⟨v, rfl, hv, hb2⟩
            obtain ⟨al, cl, rfl, hln, -⟩ := own_slice hv
            have hM2 := hM'.below hb2
            go_wp2_with fail
            refine (kfi.out _ hM2).mono ?_
            rintro e w3 ⟨rfl, rfl⟩
            go_wp2
            exact bodyPost_ret (v := .tuple #[]) (by simp [results, Tryz.results32, go_sem]) rfl ⟨rfl, by rw [hfin2.out]; exact hM2, hfr'.below hb2⟩
          | cons k l =>
            obtain ⟨nl, hnl⟩ : ∃ nl, nl = l.length + 1 := ⟨_, rfl⟩
            have hnl0 : ¬ nl = 0 := by omega
            have hnl1 : 0 < nl := by omega
            have kb : Hid (∀ w', RMem o q w' b M' lv (.slice ak m.keys.length ck) qv → Calls Tryz.prog 69 #[.pointer (some ⟨b, 0, none⟩)] w' fun r w'' => ∃ v, r = .returned v ∧ w''.ownsRow w'.heap.size 3 1 v nl (numCells (k :: l)) ∧ Below w'.heap.size w' w'') := fun w' h' => by have := rback_any h' hwf' hmx'; rw [hb] at this; rw [hnl]; exact this
            have HNL : Hid _ := hnl
            clear hnl
            cases hf : M'.first 2 with
            | none =>
              have hfin2 : Hid ((m.startN 6).leaseN 6 = M') := by
                show _ = _
                rw [hfin.out, HE.out]
                cases gk with
                | zero => rfl
                | succ g => simp only [RM.leaseN, hb, hf]
              have kfi : Hid (∀ w', RMem o q w' b M' lv (.slice ak m.keys.length ck) qv → Calls Tryz.prog 70 #[.pointer (some ⟨b, 0, none⟩), .int .i64 2] w' fun r w'' => r = .returned (.int .i64 (-1)) ∧ w'' = w') := fun w' h' => by have := first_slot h' 2; rw [hf] at this; exact this
              go_wp2_with fail
              refine (kb.out _ hM').mono ?_
              rintro e w2 ⟨v, rfl, hv, hb2⟩
              obtain ⟨al, cl, rfl, hln, -⟩ := own_slice hv
              have hM2 := hM'.below hb2
              go_wp2_with fail
              refine (kfi.out _ hM2).mono ?_
              rintro e w3 ⟨rfl, rfl⟩
              go_wp2
              exact bodyPost_ret (v := .tuple #[]) (by simp [results, Tryz.results32, go_sem]) rfl ⟨rfl, by rw [hfin2.out]; exact hM2, hfr'.below hb2⟩
            | some s =>
              have kfi : Hid (∀ w', RMem o q w' b M' lv (.slice ak m.keys.length ck) qv → Calls Tryz.prog 70 #[.pointer (some ⟨b, 0, none⟩), .int .i64 2] w' fun r w'' => r = .returned (.int .i64 (s : Nat)) ∧ w'' = w') := fun w' h' => by have := first_slot h' 2; rw [hf] at this; exact this
              obtain ⟨hs6, hcl, hpos⟩ := RM.cnt_lease M' k s hf
              have hkk : k < M'.keys.length := hwf'.q k (RM.back_mem M' hb).1
              have HL : Hid ((m.startN 6).leaseN 6 = (M'.leaseAt k s).leaseN (gk - 1)) := by
                show _ = _
                obtain ⟨g', rfl⟩ : ∃ g', gk = g' + 1 := ⟨gk - 1, by omega⟩
                rw [hfin.out, HE.out]
                simp only [RM.leaseN, hb, hf, Nat.add_sub_cancel]
              have HL2 : Hid (M.leaseN 6 = (M'.leaseAt k s).leaseN (gk - 1)) := by
                show _ = _
                obtain ⟨g', rfl⟩ : ∃ g', gk = g' + 1 := ⟨gk - 1, by omega⟩
                rw [HE.out]
                simp only [RM.leaseN, hb, hf, Nat.add_sub_cancel]
              have hwfl := RM.wf_lease hwf' k s hkk
              have hend : Hid ((M'.leaseAt k s).cnt 2 ≤ ((gk - 1 : Nat) : Int)) := by show _ ≤ _; omega
              have hlen2 : (M'.leaseAt k s).keys.length = m.keys.length := by rw [← hkl']; simp [RM.leaseAt]
              have hmx2 : (M'.leaseAt k s).queue.length ≤ 1000000000000 := hmx'
              have hgk : gk - 1 < gk := by omega
              have hke := M'.key_eq hkk
              have hcells := rkeyCells_is M'.keys k hkk 2
              obtain ⟨L, hL⟩ : ∃ L, M'.keys.set k { M'.keys[k] with is := 2 } = L := ⟨_, rfl⟩
              have hlenL : L.length = M'.keys.length := by rw [← hL]; simp
              have HFOUR : Hid (((((({ M' with keys := L } : RM).slotSt s 3).slotSince s M'.time).slotServed s (wrap64 ((M'.slot s).served + 1))).slotKey s k) = M'.leaseAt k s) := RM.lease_four M' k s L (by rw [← hL, hke])
              rw [hL] at hcells
              have HC : Hid _ := hcells
              clear hcells hL hke HE hb hf hcl hpos hcnt'
              have hbl := hM'.blk.lt
              obtain ⟨ak', ck', e', -, hrow⟩ := hM'.klist
              rw [hkl'] at e'
              simp only [Value.slice.injEq, true_and] at e'
              obtain ⟨e1, e2⟩ := e'
              subst e1 e2
              obtain ⟨g, rfl, hg, hgb, hgo, -, -, -, -, -⟩ := hrow k hkk
              have hrow2 : Hid (∀ w', RMem o q w' b M' lv (.slice (some ⟨g, 0, none⟩) m.keys.length ck) qv → w'.cell? ⟨g, k * 4 + 3, none⟩ = some (.int .i64 M'.keys[k].is) ∧ ∀ j, w'.frozen? ⟨g, j, none⟩ = false) := by
                intro w' h'
                obtain ⟨ak'', ck'', e, -, hr'⟩ := h'.klist
                rw [hkl'] at e
                simp only [Value.slice.injEq, true_and] at e
                obtain ⟨rfl, rfl⟩ := e
                obtain ⟨g', e', -, -, -, fg', -, -, -, d3⟩ := hr' k hkk
                simp only [Option.some.injEq, Addr.mk.injEq, and_true] at e'
                subst e'
                exact ⟨d3, fg'⟩
              clear hrow
              have hkI : (k : Int) < m.keys.length := by omega
              have hnlI : ((nl : Int) == 0) = false := by simp; omega
              have hsI : decide ((s : Int) < 0) = false := by simp
              have hs6I : (s : Int) < 6 := by omega
              have hwr : IntKind.i64.wrap ((M'.slot s).served + 1) = wrap64 ((M'.slot s).served + 1) := IntWalk.i64_left _
              go_wp2_with fail
              refine (kb.out _ hM').mono ?_
              rintro e w2 ⟨v, rfl, hv, hb2⟩
              obtain ⟨al, cl, rfl, hln, hal⟩ := own_slice hv
              obtain ⟨gl, rfl, hgl1, hgl2⟩ := hal hnl1
              have hM2 := hM'.below hb2
              have l0 : w2.cell? ⟨gl, 0, none⟩ = some (.int .i64 (k : Nat)) := by
                have := hv.cellAt 0 (by omega)
                rw [this]; rfl
              have hgg : gl ≠ g := by omega
              have hgb2 : gl ≠ b := by omega
              have frA := hfr'.below hb2
              clear kb hv hb2 hfr' hM'
              go_wp2_with fail
              refine (kfi.out _ hM2).mono ?_
              rintro e w3 ⟨rfl, rfl⟩
              clear kfi
              have z0 := hM2.keysv
              obtain ⟨c3, fg⟩ := hrow2.out _ hM2
              go_wp2_with fail
              have hMd := hM2.drew
              have frB := frA.below (Below.refl _ _).drew
              have l0d : w3.drew.cell? ⟨gl, 0, none⟩ = some (.int .i64 (k : Nat)) := l0
              refine wp_region_noPanic ?_
              refine wp_region_held_drew (S := fun w' => w'.cell? ⟨b, 54, none⟩ = some (.slice (some ⟨g, 0, none⟩) m.keys.length ck) ∧ w'.cell? ⟨gl, 0, none⟩ = some (.int .i64 (k : Nat))) (by kernel_rfl) ⟨z0, l0⟩ (fun hHeld => ?_)
              refine take_at (i := 0) (v := ?_) rfl (by kernel_rfl) (by kernel_rfl) (by kernel_rfl) (fun _ _ _ h => h) (by rfl) ?_ (by assumption) ?_
              rotate_left
              · (intro wx hSw; obtain ⟨x0, x1⟩ := hSw; go_simp; with_reducible rfl)
              simp only [Act.put, List.setIfInBounds_toArray, List.set_cons_zero, List.set_cons_succ]
              refine take_at (i := 1) (v := ?_) rfl (by kernel_rfl) (by kernel_rfl) (by kernel_rfl) (fun _ _ _ h => h) (by rfl) ?_ (by assumption) ?_
              rotate_left
              · (intro wx hSw; obtain ⟨x0, x1⟩ := hSw; go_simp; with_reducible rfl)
              simp only [Act.put, List.setIfInBounds_toArray, List.set_cons_zero, List.set_cons_succ]
              refine take_at (i := 2) (v := ?_) rfl (by kernel_rfl) (by kernel_rfl) (by kernel_rfl) (fun _ _ _ h => h) (by rfl) ?_ (by assumption) ?_
              rotate_left
              · (intro wx hSw; obtain ⟨x0, x1⟩ := hSw; go_simp; with_reducible rfl)
              simp only [Act.put, List.setIfInBounds_toArray, List.set_cons_zero, List.set_cons_succ]
              refine take_at (i := 3) (v := ?_) rfl (by kernel_rfl) (by kernel_rfl) (by kernel_rfl) (fun _ _ _ h => h) (by rfl) ?_ (by assumption) ?_
              rotate_left
              · (intro wx hSw; obtain ⟨x0, x1⟩ := hSw; go_simp; with_reducible rfl)
              simp only [Act.put, List.setIfInBounds_toArray, List.set_cons_zero, List.set_cons_succ]
              refine take_at (i := 4) (v := ?_) rfl (by kernel_rfl) (by kernel_rfl) (by kernel_rfl) (fun _ _ _ h => h) (by rfl) ?_ (by assumption) ?_
              rotate_left
              · (intro wx hSw; obtain ⟨x0, x1⟩ := hSw; go_simp; with_reducible rfl)
              simp only [Act.put, List.setIfInBounds_toArray, List.set_cons_zero, List.set_cons_succ]
              refine take_at (i := 5) (v := ?_) rfl (by kernel_rfl) (by kernel_rfl) (by kernel_rfl) (fun _ _ _ h => h) (by rfl) ?_ (by assumption) ?_
              rotate_left
              · (intro wx hSw; obtain ⟨x0, x1⟩ := hSw; go_simp; with_reducible rfl)
              simp only [Act.put, List.setIfInBounds_toArray, List.set_cons_zero, List.set_cons_succ]
              refine take_at (i := 6) (v := ?_) rfl (by kernel_rfl) (by kernel_rfl) (by kernel_rfl) (fun _ _ _ h => h) (by rfl) ?_ (by assumption) ?_
              rotate_left
              · (intro wx hSw; obtain ⟨x0, x1⟩ := hSw; go_simp; with_reducible rfl)
              simp only [Act.put, List.setIfInBounds_toArray, List.set_cons_zero, List.set_cons_succ]
              refine take_at (i := 7) (v := ?_) rfl (by kernel_rfl) (by kernel_rfl) (by kernel_rfl) (fun _ _ _ h => h) (by rfl) ?_ (by assumption) ?_
              rotate_left
              · (intro wx hSw; obtain ⟨x0, x1⟩ := hSw; go_simp; with_reducible rfl)
              simp only [Act.put, List.setIfInBounds_toArray, List.set_cons_zero, List.set_cons_succ]
              refine take_at (i := 8) (v := ?_) rfl (by kernel_rfl) (by kernel_rfl) (by kernel_rfl) (fun _ _ _ h => h) (by rfl) ?_ (by assumption) ?_
              rotate_left
              · (intro wx hSw; obtain ⟨x0, x1⟩ := hSw; go_simp; with_reducible rfl)
              simp only [Act.put, List.setIfInBounds_toArray, List.set_cons_zero, List.set_cons_succ]
              refine only_at (i := 9) rfl (by kernel_rfl) (by rfl) (fun K hK => ?_)
              go_simp
              obtain ⟨hMA, frC⟩ := hMd.setKey hkl'.symm (k * 4 + 3) (.int .i64 2) L hlenL HC.out
              have l0A : (w3.drew.setCell ⟨g, k * 4 + 3, none⟩ (.int .i64 2)).cell? ⟨gl, 0, none⟩ = some (.int .i64 (k : Nat)) := by
                rw [← l0d]; exact World.cell?_of_block (Below.heap_setCell _ _ _ gl hgg)
              have frD := frB.trans frC
              refine hK.out _ (w3.drew.setCell ⟨g, k * 4 + 3, none⟩ (.int .i64 2)) ⟨hMA.keysv, l0A⟩ ?_
              clear hK K hHeld
              refine wpAnyH_done (by kernel_rfl) ?_ _
              refine NoPanic.normal ?_
              clear z0 c3 fg l0 l0d hMd frA frB frC hM2
              generalize w3.drew.setCell ⟨g, k * 4 + 3, none⟩ (.int .i64 2) = wA at *
              obtain ⟨c0, -⟩ := hMA.slotc hs6
              have fz := hMA.frozen
              obtain ⟨hMB, frE⟩ := hMA.slotSt hs6 3
              go_wp2_with fail
              have l0B : (wA.setCell ⟨b, 24 + s * 5, none⟩ (.int .i64 3)).cell? ⟨gl, 0, none⟩ = some (.int .i64 (k : Nat)) := by
                rw [← l0A]; exact World.cell?_of_block (Below.heap_setCell _ _ _ gl hgb2)
              have frF := frD.trans frE
              clear c0 fz l0A frD frE hMA
              generalize wA.setCell ⟨b, 24 + s * 5, none⟩ (.int .i64 3) = wB at *
              have t0 := hMB.timec
              have hMBd := hMB.drew
              obtain ⟨hMC, frG⟩ := hMBd.slotSince hs6 M'.time
              obtain ⟨-, -, c2, -, -⟩ := hMB.slotc hs6
              have fz := hMB.frozen
              refine wp_region_noPanic ?_
              refine wp_region_held_drew (S := fun w' => w'.cell? ⟨b, 7, none⟩ = some (.int .i64 M'.time)) (by kernel_rfl) t0 (fun hHeld => ?_)
              refine take_at (i := 0) (v := ?_) rfl (by kernel_rfl) (by kernel_rfl) (by kernel_rfl) (fun _ _ _ h => h) (by rfl) ?_ (by assumption) ?_
              rotate_left
              · (intro wx hSw; go_simp; with_reducible rfl)
              simp only [Act.put, List.setIfInBounds_toArray, List.set_cons_zero, List.set_cons_succ]
              refine take_at (i := 1) (v := ?_) rfl (by kernel_rfl) (by kernel_rfl) (by kernel_rfl) (fun _ _ _ h => h) (by rfl) ?_ (by assumption) ?_
              rotate_left
              · (intro wx hSw; go_simp; with_reducible rfl)
              simp only [Act.put, List.setIfInBounds_toArray, List.set_cons_zero, List.set_cons_succ]
              refine take_at (i := 2) (v := ?_) rfl (by kernel_rfl) (by kernel_rfl) (by kernel_rfl) (fun _ _ _ h => h) (by rfl) ?_ (by assumption) ?_
              rotate_left
              · (intro wx hSw; go_simp; with_reducible rfl)
              simp only [Act.put, List.setIfInBounds_toArray, List.set_cons_zero, List.set_cons_succ]
              refine take_at (i := 3) (v := ?_) rfl (by kernel_rfl) (by kernel_rfl) (by kernel_rfl) (fun _ _ _ h => h) (by rfl) ?_ (by assumption) ?_
              rotate_left
              · (intro wx hSw; go_simp; with_reducible rfl)
              simp only [Act.put, List.setIfInBounds_toArray, List.set_cons_zero, List.set_cons_succ]
              refine take_at (i := 4) (v := ?_) rfl (by kernel_rfl) (by kernel_rfl) (by kernel_rfl) (fun _ _ _ h => h) (by rfl) ?_ (by assumption) ?_
              rotate_left
              · (intro wx hSw; go_simp; with_reducible rfl)
              simp only [Act.put, List.setIfInBounds_toArray, List.set_cons_zero, List.set_cons_succ]
              refine take_at (i := 5) (v := ?_) rfl (by kernel_rfl) (by kernel_rfl) (by kernel_rfl) (fun _ _ _ h => h) (by rfl) ?_ (by assumption) ?_
              rotate_left
              · (intro wx hSw; go_simp; with_reducible rfl)
              simp only [Act.put, List.setIfInBounds_toArray, List.set_cons_zero, List.set_cons_succ]
              refine take_at (i := 6) (v := ?_) rfl (by kernel_rfl) (by kernel_rfl) (by kernel_rfl) (fun _ _ _ h => h) (by rfl) ?_ (by assumption) ?_
              rotate_left
              · (intro wx hSw; go_simp; with_reducible rfl)
              simp only [Act.put, List.setIfInBounds_toArray, List.set_cons_zero, List.set_cons_succ]
              refine take_at (i := 7) (v := ?_) rfl (by kernel_rfl) (by kernel_rfl) (by kernel_rfl) (fun _ _ _ h => h) (by rfl) ?_ (by assumption) ?_
              rotate_left
              · (intro wx hSw; go_simp; with_reducible rfl)
              simp only [Act.put, List.setIfInBounds_toArray, List.set_cons_zero, List.set_cons_succ]
              refine take_at (i := 8) (v := ?_) rfl (by kernel_rfl) (by kernel_rfl) (by kernel_rfl) (fun _ _ _ h => h) (by rfl) ?_ (by assumption) ?_
              rotate_left
              · (intro wx hSw; go_simp; with_reducible rfl)
              simp only [Act.put, List.setIfInBounds_toArray, List.set_cons_zero, List.set_cons_succ]
              refine take_at (i := 9) (v := ?_) rfl (by kernel_rfl) (by kernel_rfl) (by kernel_rfl) (fun _ _ _ h => h) (by rfl) ?_ (by assumption) ?_
              rotate_left
              · (intro wx hSw; go_simp; with_reducible rfl)
              simp only [Act.put, List.setIfInBounds_toArray, List.set_cons_zero, List.set_cons_succ]
              refine only_at (i := 10) rfl (by kernel_rfl) (by rfl) (fun K hK => ?_)
              go_simp
              have l0C : (wB.drew.setCell ⟨b, 24 + s * 5 + 2, none⟩ (.int .i64 M'.time)).cell? ⟨gl, 0, none⟩ = some (.int .i64 (k : Nat)) := by
                have : wB.drew.cell? ⟨gl, 0, none⟩ = some (.int .i64 (k : Nat)) := l0B
                rw [← this]; exact World.cell?_of_block (Below.heap_setCell _ _ _ gl hgb2)
              refine hK.out _ (wB.drew.setCell ⟨b, 24 + s * 5 + 2, none⟩ (.int .i64 M'.time)) hMC.timec ?_
              clear hK K hHeld
              refine wpAnyH_done (by kernel_rfl) ?_ _
              refine NoPanic.normal ?_
              have frH := (frF.below (Below.refl _ _).drew).trans frG
              clear t0 c2 fz l0B frF frG hMBd hMB
              generalize wB.drew.setCell ⟨b, 24 + s * 5 + 2, none⟩ (.int .i64 M'.time) = wC at *
              go_wp2_with fail
              have hMCd := hMC.drew
              have hsv : (((({ M' with keys := L } : RM).slotSt s 3).slotSince s M'.time).slot s).served = (M'.slot s).served := by simp [RM.slotSt, RM.slotSince]
              obtain ⟨-, c1, -, -, -⟩ := hMCd.slotc hs6
              rw [hsv] at c1
              have fz := hMCd.frozen
              obtain ⟨hMD, frI⟩ := hMCd.slotServed hs6 (wrap64 ((M'.slot s).served + 1))
              refine wp_region_noPanic ?_
              refine wp_region_held_drew (S := fun w' => True) (by kernel_rfl) trivial (fun hHeld => ?_)
              refine take_at (i := 0) (v := ?_) rfl (by kernel_rfl) (by kernel_rfl) (by kernel_rfl) (fun _ _ _ h => h) (by rfl) ?_ (by assumption) ?_
              rotate_left
              · (intro wx hSw; go_simp; with_reducible rfl)
              simp only [Act.put, List.setIfInBounds_toArray, List.set_cons_zero, List.set_cons_succ]
              refine take_at (i := 1) (v := ?_) rfl (by kernel_rfl) (by kernel_rfl) (by kernel_rfl) (fun _ _ _ h => h) (by rfl) ?_ (by assumption) ?_
              rotate_left
              · (intro wx hSw; go_simp; with_reducible rfl)
              simp only [Act.put, List.setIfInBounds_toArray, List.set_cons_zero, List.set_cons_succ]
              refine take_at (i := 2) (v := ?_) rfl (by kernel_rfl) (by kernel_rfl) (by kernel_rfl) (fun _ _ _ h => h) (by rfl) ?_ (by assumption) ?_
              rotate_left
              · (intro wx hSw; go_simp; with_reducible rfl)
              simp only [Act.put, List.setIfInBounds_toArray, List.set_cons_zero, List.set_cons_succ]
              refine take_at (i := 3) (v := ?_) rfl (by kernel_rfl) (by kernel_rfl) (by kernel_rfl) (fun _ _ _ h => h) (by rfl) ?_ (by assumption) ?_
              rotate_left
              · (intro wx hSw; go_simp; with_reducible rfl)
              simp only [Act.put, List.setIfInBounds_toArray, List.set_cons_zero, List.set_cons_succ]
              refine take_at (i := 4) (v := ?_) rfl (by kernel_rfl) (by kernel_rfl) (by kernel_rfl) (fun _ _ _ h => h) (by rfl) ?_ (by assumption) ?_
              rotate_left
              · (intro wx hSw; go_simp; with_reducible rfl)
              simp only [Act.put, List.setIfInBounds_toArray, List.set_cons_zero, List.set_cons_succ]
              refine take_at (i := 5) (v := ?_) rfl (by kernel_rfl) (by kernel_rfl) (by kernel_rfl) (fun _ _ _ h => h) (by rfl) ?_ (by assumption) ?_
              rotate_left
              · (intro wx hSw; go_simp; with_reducible rfl)
              simp only [Act.put, List.setIfInBounds_toArray, List.set_cons_zero, List.set_cons_succ]
              refine take_at (i := 8) (v := ?_) rfl (by kernel_rfl) (by kernel_rfl) (by kernel_rfl) (fun _ _ _ h => h) (by rfl) ?_ (by assumption) ?_
              rotate_left
              · (intro wx hSw; go_simp; with_reducible rfl)
              simp only [Act.put, List.setIfInBounds_toArray, List.set_cons_zero, List.set_cons_succ]
              refine take_at (i := 9) (v := ?_) rfl (by kernel_rfl) (by kernel_rfl) (by kernel_rfl) (fun _ _ _ h => h) (by rfl) ?_ (by assumption) ?_
              rotate_left
              · (intro wx hSw; go_simp; with_reducible rfl)
              simp only [Act.put, List.setIfInBounds_toArray, List.set_cons_zero, List.set_cons_succ]
              refine only_at (i := 6) rfl (by kernel_rfl) (by rfl) (fun K hK => ?_)
              go_simp
              refine hK.out _ _ trivial ?_
              clear hK K
              try simp only [Act.put, List.setIfInBounds_toArray, List.set_cons_zero, List.set_cons_succ]
              refine take_at (i := 7) (v := ?_) rfl (by kernel_rfl) (by kernel_rfl) (by kernel_rfl) (fun _ _ _ h => h) (by rfl) ?_ (by assumption) ?_
              rotate_left
              · (intro wx hSw; go_simp; with_reducible rfl)
              simp only [Act.put, List.setIfInBounds_toArray, List.set_cons_zero, List.set_cons_succ]
              refine take_at (i := 10) (v := ?_) rfl (by kernel_rfl) (by kernel_rfl) (by kernel_rfl) (fun _ _ _ h => h) (by rfl) ?_ (by assumption) ?_
              rotate_left
              · (intro wx hSw; go_simp; with_reducible rfl)
              simp only [Act.put, List.setIfInBounds_toArray, List.set_cons_zero, List.set_cons_succ]
              refine take_at (i := 11) (v := ?_) rfl (by kernel_rfl) (by kernel_rfl) (by kernel_rfl) (fun _ _ _ h => h) (by rfl) ?_ (by assumption) ?_
              rotate_left
              · (intro wx hSw; go_simp; with_reducible rfl)
              simp only [Act.put, List.setIfInBounds_toArray, List.set_cons_zero, List.set_cons_succ]
              refine only_at (i := 12) rfl (by kernel_rfl) (by rfl) (fun K hK => ?_)
              go_simp
              try rw [hwr]
              refine hK.out _ (wC.drew.setCell ⟨b, 24 + s * 5 + 1, none⟩ (.int .i64 (wrap64 ((M'.slot s).served + 1)))) trivial ?_
              clear hK K hHeld
              refine wpAnyH_done (by kernel_rfl) ?_ _
              refine NoPanic.normal ?_
              have l0D : (wC.drew.setCell ⟨b, 24 + s * 5 + 1, none⟩ (.int .i64 (wrap64 ((M'.slot s).served + 1)))).cell? ⟨gl, 0, none⟩ = some (.int .i64 (k : Nat)) := by
                have : wC.drew.cell? ⟨gl, 0, none⟩ = some (.int .i64 (k : Nat)) := l0C
                rw [← this]; exact World.cell?_of_block (Below.heap_setCell _ _ _ gl hgb2)
              have frJ := (frH.below (Below.refl _ _).drew).trans frI
              clear hsv c1 fz l0C frH frI hMCd hMC
              generalize wC.drew.setCell ⟨b, 24 + s * 5 + 1, none⟩ (.int .i64 (wrap64 ((M'.slot s).served + 1))) = wD at *
              go_wp2_with fail
              have hMDd := hMD.drew
              obtain ⟨-, -, -, -, c4⟩ := hMDd.slotc hs6
              have fz := hMDd.frozen
              obtain ⟨hME, frK⟩ := hMDd.slotKey hs6 k
              rw [HFOUR.out] at hME
              refine wp_region_noPanic ?_
              refine wp_region_held_drew (S := fun w' => w'.cell? ⟨gl, 0, none⟩ = some (.int .i64 (k : Nat))) (by kernel_rfl) l0D (fun hHeld => ?_)
              refine take_at (i := 0) (v := ?_) rfl (by kernel_rfl) (by kernel_rfl) (by kernel_rfl) (fun _ _ _ h => h) (by rfl) ?_ (by assumption) ?_
              rotate_left
              · (intro wx hSw; go_simp; with_reducible rfl)
              simp only [Act.put, List.setIfInBounds_toArray, List.set_cons_zero, List.set_cons_succ]
              refine take_at (i := 1) (v := ?_) rfl (by kernel_rfl) (by kernel_rfl) (by kernel_rfl) (fun _ _ _ h => h) (by rfl) ?_ (by assumption) ?_
              rotate_left
              · (intro wx hSw; go_simp; with_reducible rfl)
              simp only [Act.put, List.setIfInBounds_toArray, List.set_cons_zero, List.set_cons_succ]
              refine take_at (i := 2) (v := ?_) rfl (by kernel_rfl) (by kernel_rfl) (by kernel_rfl) (fun _ _ _ h => h) (by rfl) ?_ (by assumption) ?_
              rotate_left
              · (intro wx hSw; go_simp; with_reducible rfl)
              simp only [Act.put, List.setIfInBounds_toArray, List.set_cons_zero, List.set_cons_succ]
              refine take_at (i := 3) (v := ?_) rfl (by kernel_rfl) (by kernel_rfl) (by kernel_rfl) (fun _ _ _ h => h) (by rfl) ?_ (by assumption) ?_
              rotate_left
              · (intro wx hSw; go_simp; with_reducible rfl)
              simp only [Act.put, List.setIfInBounds_toArray, List.set_cons_zero, List.set_cons_succ]
              refine take_at (i := 4) (v := ?_) rfl (by kernel_rfl) (by kernel_rfl) (by kernel_rfl) (fun _ _ _ h => h) (by rfl) ?_ (by assumption) ?_
              rotate_left
              · (intro wx hSw; go_simp; with_reducible rfl)
              simp only [Act.put, List.setIfInBounds_toArray, List.set_cons_zero, List.set_cons_succ]
              refine take_at (i := 5) (v := ?_) rfl (by kernel_rfl) (by kernel_rfl) (by kernel_rfl) (fun _ _ _ h => h) (by rfl) ?_ (by assumption) ?_
              rotate_left
              · (intro wx hSw; go_simp; with_reducible rfl)
              simp only [Act.put, List.setIfInBounds_toArray, List.set_cons_zero, List.set_cons_succ]
              refine take_at (i := 6) (v := ?_) rfl (by kernel_rfl) (by kernel_rfl) (by kernel_rfl) (fun _ _ _ h => h) (by rfl) ?_ (by assumption) ?_
              rotate_left
              · (intro wx hSw; go_simp; with_reducible rfl)
              simp only [Act.put, List.setIfInBounds_toArray, List.set_cons_zero, List.set_cons_succ]
              refine take_at (i := 7) (v := ?_) rfl (by kernel_rfl) (by kernel_rfl) (by kernel_rfl) (fun _ _ _ h => h) (by rfl) ?_ (by assumption) ?_
              rotate_left
              · (intro wx hSw; go_simp; with_reducible rfl)
              simp only [Act.put, List.setIfInBounds_toArray, List.set_cons_zero, List.set_cons_succ]
              refine take_at (i := 8) (v := ?_) rfl (by kernel_rfl) (by kernel_rfl) (by kernel_rfl) (fun _ _ _ h => h) (by rfl) ?_ (by assumption) ?_
              rotate_left
              · (intro wx hSw; go_simp; with_reducible rfl)
              simp only [Act.put, List.setIfInBounds_toArray, List.set_cons_zero, List.set_cons_succ]
              refine only_at (i := 9) rfl (by kernel_rfl) (by rfl) (fun K hK => ?_)
              go_simp
              have l0E : (wD.drew.setCell ⟨b, 24 + s * 5 + 4, none⟩ (.int .i64 (k : Nat))).cell? ⟨gl, 0, none⟩ = some (.int .i64 (k : Nat)) := by
                have : wD.drew.cell? ⟨gl, 0, none⟩ = some (.int .i64 (k : Nat)) := l0D
                rw [← this]; exact World.cell?_of_block (Below.heap_setCell _ _ _ gl hgb2)
              refine hK.out _ (wD.drew.setCell ⟨b, 24 + s * 5 + 4, none⟩ (.int .i64 (k : Nat))) l0E ?_
              clear hK K hHeld
              refine wpAnyH_done (by kernel_rfl) ?_ _
              refine NoPanic.normal ?_
              have frL := (frJ.below (Below.refl _ _).drew).trans frK
              clear c4 fz l0D l0E frJ frK hMDd hMD
              generalize wD.drew.setCell ⟨b, 24 + s * 5 + 4, none⟩ (.int .i64 (k : Nat)) = wE at *
              go_wp2
              go_roundg (gk - 1)
              case measure => exact hgk
              case rel => exact ⟨M'.leaseAt k s, hME, frL, HL2.out, hend.out, hwfl, hmx2, hlen2⟩

end
end Go.Proofs.YtlafkpaljibonaaGreat
