import Derived.Test.YtlafkpaljibonaaJ12
namespace Go.Proofs.Ytlafkpaljibonaa
open Go.RowKit

theorem mostI_le (a b : Int) : a ≤ mostI a b ∧ b ≤ mostI a b := by
  unfold mostI
  split <;> omega

theorem bounds_look {w w' : World} {xb fb B : Nat} {o : Nat → Tag} {M : PM} (h : BInv w xb fb o w' M) (hf : M.Fit B) (hB : B ≤ 48000000) :
    Calls Try.prog 27 #[.pointer (some ⟨fb, 0, none⟩)] w' fun r w'' => ∃ a ca, r = .returned (.agg (lookC M 4 6 (.slice a M.waits.length ca) M.time true).toArray) ∧ w''.ownsRow w'.heap.size 109 2 (.slice a M.waits.length ca) M.waits.length (keyCells M.waits) ∧ Below w'.heap.size w' w'' := by
  obtain ⟨sv, rv, hm⟩ := h.sole
  refine (look_any hm (by have := hf.small.req; omega)).mono ?_
  rintro r w'' ⟨bv, e, own, hb⟩
  obtain ⟨a, ca, rfl, -, -⟩ := own_slice own
  exact ⟨a, ca, e, own, hb⟩

theorem waits_few {M : PM} {B : Nat} (hf : M.Fit B) (hB : B ≤ 48000000) : M.waits.length ≤ 1000000000000 := by
  have : M.waits.length ≤ M.req.length := by simp only [PM.waits, List.length_map]; exact List.length_filter_le _ _
  have := hf.small.req
  omega

set_option maxRecDepth 100000 in
set_option maxHeartbeats 16000000 in
theorem bounds_any (c : Cfg) (hc : c.in64) (aX : Option Addr) (nX cX : Nat) (X : Nat → KSt) (w : World)
    (hX : IsKSteps w aX nX X) (hX64 : ∀ k, k < nX → (X k).in64) (hsum : ktot X nX ≤ 40000000) :
    Calls Try.prog 8 #[c.val, .slice aX nX cX] w fun r w' => r = .returned (.bool true) ∧ Below w.heap.size w w' := by
  have kS : Hid (∀ w', Calls Try.prog 21 #[c.val] w' fun r w'' => r = .returned (setC c).val ∧ Below w'.heap.size w' w'') := fun w' => settings_any c hc w'
  have kO : Hid (∀ (o : Nat → Tag) w', Clean o w' → Calls Try.prog 22 #[(setC c).val] w' fun r w'' => ∃ b o', r = .returned (.pointer (some ⟨b, 0, none⟩)) ∧ FMem o' 1 w'' b (newPM (setC c)) nilV (.slice none 0 0) ∧ Fr 1 o w' o' w'') := fun o w' ho => opened_any (setC c) (setC_ok c) ho
  have hF0 : (newPM (setC c)).Fit 0 := new_fit _
  have hS0 : (newPM (setC c)).Sure false (setC c).ch (setC c).bl := new_sure _ (setC_ok c)
  have hset0 : (newPM (setC c)).set = setC c := settle_set (rawPM (setC c))
  have hgX := ktot_ge X nX
  generalize newPM (setC c) = m0 at *
  generalize setC c = SC at *
  unfold Cfg.val at *
  have hb0 : Below w.heap.size w (w.alloc (.cells #[.int .i64 c.ch, .bool c.dyn, .int .i64 c.mn, .int .i64 c.mx, .int .i64 c.mr, .int .i64 c.tmo, .int .i64 c.bl] 44)) := (Below.refl _ _).alloc (Nat.le_refl _) _
  go_enter Try.func8, Try.ntmps8
  go_wp2_with fail
  refine (kS.out _).mono ?_
  rintro e w1 ⟨rfl, hb1⟩
  have hb01 := hb0.trans (hb1.mono hb0.size)
  have hbx : Below w1.heap.size w1 (w1.alloc (.cells #[.int .i64 SC.ch, .bool SC.dyn, .int .i64 SC.mn, .int .i64 SC.mx, .int .i64 SC.mr, .int .i64 SC.tmo, .int .i64 SC.bl] 44)) := (Below.refl _ _).alloc (Nat.le_refl _) _
  have x0 := Blk.made w1 44 SC.cells
  have hb2 := hb01.trans (hbx.mono hb01.size)
  have hxlt : w.heap.size ≤ w1.heap.size := hb01.size
  clear hb0 hb1
  go_wp2_with fail
  have x1 : Blk (w1.alloc (.cells #[.int .i64 SC.ch, .bool SC.dyn, .int .i64 SC.mn, .int .i64 SC.mx, .int .i64 SC.mr, .int .i64 SC.tmo, .int .i64 SC.bl] 44)) w1.heap.size 44 SC.cells := x0
  clear x0 hbx
  generalize w1.alloc (.cells #[.int .i64 SC.ch, .bool SC.dyn, .int .i64 SC.mn, .int .i64 SC.mx, .int .i64 SC.mr, .int .i64 SC.tmo, .int .i64 SC.bl] 44) = w2 at *
  refine (kO.out noK _ (fun _ _ => rfl)).mono ?_
  rintro e w3 ⟨fb, o3, rfl, hm3, fr3⟩
  have x3 := x1.keep (fr3.block _ x1.lt (by simp [noK]))
  have d0 := x3.cell (k := 0) (u := .int .i64 SC.ch) rfl
  have d6 := x3.cell (k := 6) (u := .int .i64 SC.bl) rfl
  have I0 : BInv w w1.heap.size fb o3 w3 m0 := ⟨⟨_, _, hm3⟩, (FrN.of_below (o := noK) (fun _ _ => rfl) hb2).trans (fr3.toN (by omega)), hxlt, fr3.tags _ x1.lt, by rw [hset0]; exact x3⟩
  go_wp2
  clear d0 d6 x1 x3 hm3 fr3 hb2 hb01 kO kS hxlt
  generalize w1.heap.size = xb at *
  go_loopw [7, 8, 9, 10] (fun room queue anew i w' => ∃ (j : Nat) (M : PM) (a : Bool) (R Q : Int) (o' : Nat → Tag), j ≤ nX + 1 ∧ i = .int .i64 j ∧ room = .int .i64 R ∧ queue = .int .i64 Q ∧ anew = .bool a ∧ BInv w xb fb o' w' M ∧ M.Sure a R Q ∧ (j ≤ nX → M.Fit (ktot X j))) (fun _ _ _ i _ => nX + 1 - (intOf i).toNat)
  case atStart => exact ⟨0, m0, false, SC.ch, SC.bl, o3, by omega, rfl, rfl, rfl, rfl, I0, hS0, fun _ => hF0⟩
  case round =>
    clear I0 hS0 hF0 hset0
    obtain ⟨j, M, a, R, Q, o1, hj, rfl, rfl, rfl, rfl, I1, S1, F1⟩ := hrel
    by_cases hlt : j < nX
    · obtain ⟨bb, off, rfl, hbl, hcell⟩ : ∃ bb off, aX = some ⟨bb, off, none⟩ ∧ bb < w.heap.size ∧ ∀ o' w', FrN noK w o' w' → ∀ i u, ((X j).cells)[i]? = some u → w'.cell? ⟨bb, off + j * 12 + i, none⟩ = some u := by
        rcases hX with e | ⟨bb, off, e, hbl, hcc⟩
        · omega
        · exact ⟨bb, off, e, hbl, fun o' w' hf i u hu => by rw [World.cell?_of_block (hf.block bb hbl rfl)]; exact hcc j hlt i u hu⟩
      have hjI : (j : Int) < nX := by omega
      have hjI2 : (j : Int) ≤ nX := by omega
      have hFit := F1 (by omega)
      clear F1
      have hkt := ktot_mono X (show j + 1 ≤ nX from hlt)
      have hkt' : ktot X (j + 1) = ktot X j + (X j).s.size + 520 := rfl
      have hx64 := hX64 j hlt
      have hk10 := pickI_bd (X j).kind 10 (by omega)
      have kP : Hid (∀ w', Calls Try.prog 15 #[.int .i64 (X j).kind, .int .i64 10] w' fun r w'' => r = .returned (.int .i64 (pickI (X j).kind 10)) ∧ w'' = w') := fun w' => pick_any _ _ w' hx64.1.1 hx64.1.2 (by omega) (by omega)
      generalize pickI (X j).kind 10 = kd at *
      generalize X j = XJ at *
      have c0 := hcell _ _ I1.fr 0 (.int .i64 XJ.kind) rfl
      rw [Nat.add_zero] at c0
      have c1 := hcell _ _ I1.fr 1 (.int .i64 XJ.a) rfl
      have c2 := hcell _ _ I1.fr 2 (.int .i64 XJ.b) rfl
      have c3 := hcell _ _ I1.fr 3 (.int .i64 XJ.c) rfl
      have c4 := hcell _ _ I1.fr 4 (.string XJ.s) rfl
      have c5 := hcell _ _ I1.fr 5 (.int .i64 XJ.set.ch) rfl
      have c6 := hcell _ _ I1.fr 6 (.bool XJ.set.dyn) rfl
      have c7 := hcell _ _ I1.fr 7 (.int .i64 XJ.set.mn) rfl
      have c8 := hcell _ _ I1.fr 8 (.int .i64 XJ.set.mx) rfl
      have c9 := hcell _ _ I1.fr 9 (.int .i64 XJ.set.mr) rfl
      have c10 := hcell _ _ I1.fr 10 (.int .i64 XJ.set.tmo) rfl
      have c11 := hcell _ _ I1.fr 11 (.int .i64 XJ.set.bl) rfl
      go_wp2_with fail
      refine (kP.out _).mono ?_
      rintro e w4 ⟨rfl, rfl⟩
      by_cases hk9 : kd < 9
      · have hki := ofK_ki XJ hk10.1 hk9
        have I1d := I1.below (Below.refl _ _).drew
        have kD : Hid (∀ w', BInv w xb fb o1 w' M → Calls Try.prog 23 #[.pointer (some ⟨fb, 0, none⟩), .agg #[.int .i64 kd, .int .i64 XJ.a, .int .i64 XJ.b, .int .i64 XJ.c, .string XJ.s, .int .i64 XJ.set.ch, .bool XJ.set.dyn, .int .i64 XJ.set.mn, .int .i64 XJ.set.mx, .int .i64 XJ.set.mr, .int .i64 XJ.set.tmo, .int .i64 XJ.set.bl]] w' fun r w'' => r = .returned (.int .i64 (M.doE (XJ.ofK kd))) ∧ ∃ o', (∃ sv rv, FMem o' 1 w'' fb (M.doM (XJ.ofK kd)) sv rv) ∧ FrN noK w o' w'' ∧ o' xb = (0, 0) ∧ Blk w'' xb 44 M.set.cells) := fun w' h' => bounds_do h' hFit (by omega) (XJ.ofK kd) (ofK_in64 hx64 hk10.1 hk9) (by show XJ.s.size ≤ _; omega)
        have hF2 : (M.doM (XJ.ofK kd)).Fit (ktot X (j + 1)) := by
          have h0 := hFit.doM (XJ.ofK kd)
          rw [hkt']
          exact h0
        generalize M.doE (XJ.ofK kd) = EE at *
        go_wp2_with fail
        go_region_held3 (fun w' => w'.cell? ⟨bb, off + j * 12 + 1, none⟩ = some (.int .i64 XJ.a) ∧ w'.cell? ⟨bb, off + j * 12 + 2, none⟩ = some (.int .i64 XJ.b) ∧ w'.cell? ⟨bb, off + j * 12 + 3, none⟩ = some (.int .i64 XJ.c) ∧ w'.cell? ⟨bb, off + j * 12 + 4, none⟩ = some (.string XJ.s) ∧ w'.cell? ⟨bb, off + j * 12 + 5, none⟩ = some (.int .i64 XJ.set.ch) ∧ w'.cell? ⟨bb, off + j * 12 + 6, none⟩ = some (.bool XJ.set.dyn) ∧ w'.cell? ⟨bb, off + j * 12 + 7, none⟩ = some (.int .i64 XJ.set.mn) ∧ w'.cell? ⟨bb, off + j * 12 + 8, none⟩ = some (.int .i64 XJ.set.mx) ∧ w'.cell? ⟨bb, off + j * 12 + 9, none⟩ = some (.int .i64 XJ.set.mr) ∧ w'.cell? ⟨bb, off + j * 12 + 10, none⟩ = some (.int .i64 XJ.set.tmo) ∧ w'.cell? ⟨bb, off + j * 12 + 11, none⟩ = some (.int .i64 XJ.set.bl)) (first | exact ⟨c1, c2, c3, c4, c5, c6, c7, c8, c9, c10, c11⟩ | exact ⟨z1, z2, z3, z4, z5, z6, z7, z8, z9, z10, z11⟩) (first | (go_at_call 23; refine (kD.out _ I1d).mono ?_; rintro e w5 ⟨rfl, o5, s5, fr5, xt5, x5⟩; have z1 := hcell _ _ fr5 1 (.int .i64 XJ.a) rfl; have z2 := hcell _ _ fr5 2 (.int .i64 XJ.b) rfl; have z3 := hcell _ _ fr5 3 (.int .i64 XJ.c) rfl; have z4 := hcell _ _ fr5 4 (.string XJ.s) rfl; have z5 := hcell _ _ fr5 5 (.int .i64 XJ.set.ch) rfl; have z6 := hcell _ _ fr5 6 (.bool XJ.set.dyn) rfl; have z7 := hcell _ _ fr5 7 (.int .i64 XJ.set.mn) rfl; have z8 := hcell _ _ fr5 8 (.int .i64 XJ.set.mx) rfl; have z9 := hcell _ _ fr5 9 (.int .i64 XJ.set.mr) rfl; have z10 := hcell _ _ fr5 10 (.int .i64 XJ.set.tmo) rfl; have z11 := hcell _ _ fr5 11 (.int .i64 XJ.set.bl) rfl))
        clear c0 c1 c2 c3 c4 c5 c6 c7 c8 c9 c10 c11 z1 z2 z3 z4 z5 z6 z7 z8 z9 z10 z11 kD I1d
        by_cases hk7 : kd < 7
        · have hst := doM_set M (XJ.ofK kd) (by rw [hki]; omega)
          have hS2 := S1.doM (XJ.ofK kd) (by rw [hki]; omega)
          go_wp2
          exact ⟨⟨j + 1, M.doM (XJ.ofK kd), a, R, Q, o5, by omega, by go_num, rfl, rfl, rfl, ⟨s5, fr5, I1.xlt, xt5, by rw [hst]; exact x5⟩, hS2, fun _ => hF2⟩, by simp [intOf]; omega⟩
        · by_cases hk8 : kd = 8
          · subst hk8
            have hst : (M.doM (XJ.ofK 8)).set = setC XJ.set := doM_set8 M (XJ.ofK 8) hki
            have hS2 := S1.doM8 (XJ.ofK 8) hki (R' := mostI R (M.doM (XJ.ofK 8)).set.ch) (Q' := mostI Q (M.doM (XJ.ofK 8)).set.bl) (setC_ok _) (mostI_le _ _).1 (by rw [hst]; exact (mostI_le _ _).2) (mostI_le _ _).1 (by rw [hst]; exact (mostI_le _ _).2)
            have kS : Hid (∀ w', Calls Try.prog 21 #[XJ.set.val] w' fun r w'' => r = .returned (M.doM (XJ.ofK 8)).set.val ∧ Below w'.heap.size w' w'') := fun w' => by rw [hst]; exact settings_any XJ.set hx64.2.2.2.2 w'
            have c5 := hcell _ _ fr5 5 (.int .i64 XJ.set.ch) rfl
            have c6 := hcell _ _ fr5 6 (.bool XJ.set.dyn) rfl
            have c7 := hcell _ _ fr5 7 (.int .i64 XJ.set.mn) rfl
            have c8 := hcell _ _ fr5 8 (.int .i64 XJ.set.mx) rfl
            have c9 := hcell _ _ fr5 9 (.int .i64 XJ.set.mr) rfl
            have c10 := hcell _ _ fr5 10 (.int .i64 XJ.set.tmo) rfl
            have c11 := hcell _ _ fr5 11 (.int .i64 XJ.set.bl) rfl
            clear hst hx64 hcell
            generalize M.doM (XJ.ofK 8) = M5 at *
            unfold Cfg.val at kS
            go_wp2_with fail
            refine (kS.out _).mono ?_
            rintro e w6 ⟨rfl, hb6⟩
            clear c5 c6 c7 c8 c9 c10 c11 kS
            have x6 := x5.below hb6
            have z0 := x6.cell (k := 0) (u := .int .i64 M.set.ch) rfl
            have z1 := x6.cell (k := 1) (u := .bool M.set.dyn) rfl
            have z2 := x6.cell (k := 2) (u := .int .i64 M.set.mn) rfl
            have z3 := x6.cell (k := 3) (u := .int .i64 M.set.mx) rfl
            have z4 := x6.cell (k := 4) (u := .int .i64 M.set.mr) rfl
            have z5 := x6.cell (k := 5) (u := .int .i64 M.set.tmo) rfl
            have z6 := x6.cell (k := 6) (u := .int .i64 M.set.bl) rfl
            have zf := x6.frozen
            have x7 := ((((((x6.set 0 (.int .i64 M5.set.ch)).set 1 (.bool M5.set.dyn)).set 2 (.int .i64 M5.set.mn)).set 3 (.int .i64 M5.set.mx)).set 4 (.int .i64 M5.set.mr)).set 5 (.int .i64 M5.set.tmo)).set 6 (.int .i64 M5.set.bl)
            obtain ⟨sv6, rv6, h6⟩ := s5
            have m6 := h6.below hb6
            have F7 : Fr 0 o5 w6 o5 (w6.setCells xb 0 M5.set.cells) := fr0_sets (by rw [xt5]) _ 0 m6.clean
            have N7 : FrN noK w o5 (w6.setCells xb 0 M5.set.cells) := FrN.sets0 I1.xlt _ 0 (fr5.below hb6)
            have I7 : BInv w xb fb o5 (((((((w6.setCell ⟨xb, 0, none⟩ (.int .i64 M5.set.ch)).setCell ⟨xb, 1, none⟩ (.bool M5.set.dyn)).setCell ⟨xb, 2, none⟩ (.int .i64 M5.set.mn)).setCell ⟨xb, 3, none⟩ (.int .i64 M5.set.mx)).setCell ⟨xb, 4, none⟩ (.int .i64 M5.set.mr)).setCell ⟨xb, 5, none⟩ (.int .i64 M5.set.tmo)).setCell ⟨xb, 6, none⟩ (.int .i64 M5.set.bl)) M5 := ⟨⟨sv6, rv6, m6.fr F7 (by omega)⟩, N7, I1.xlt, xt5, x7⟩
            clear h6 m6 F7 N7 x7 x6 x5 fr5 hb6
            have F2 : (j + 1 ≤ nX → M5.Fit (ktot X (j + 1))) := fun _ => hF2
            clear hkt'
            have hBB : ktot X (j + 1) ≤ 48000000 := by omega
            have hwl := waits_few hF2 hBB
            have kL := bounds_look I7 hF2 hBB
            have hful := hS2.calm.full
            have hus := hS2.law.used
            have hwt := hS2.wts
            go_wp2_with fail
            refine kL.mono ?_
            rintro e wL ⟨aa, ca, rfl, oa, ba⟩
            clear z0 z1 z2 z3 z4 z5 z6 zf
            generalize ((((((w6.setCell ⟨xb, 0, none⟩ (.int .i64 M5.set.ch)).setCell ⟨xb, 1, none⟩ (.bool M5.set.dyn)).setCell ⟨xb, 2, none⟩ (.int .i64 M5.set.mn)).setCell ⟨xb, 3, none⟩ (.int .i64 M5.set.mx)).setCell ⟨xb, 4, none⟩ (.int .i64 M5.set.mr)).setCell ⟨xb, 5, none⟩ (.int .i64 M5.set.tmo)).setCell ⟨xb, 6, none⟩ (.int .i64 M5.set.bl) = w7 at *
            have hIa := lookC_info M5 (.slice aa M5.waits.length ca) M5.time true
            have hOa := lookC_one M5 aa M5.waits.length ca M5.time true
            have hG := fun s hs => lookC_get M5 s hs (.slice aa M5.waits.length ca) M5.time true
            have hB50 : (lookC M5 4 6 (.slice aa M5.waits.length ca) M5.time true)[50]? = some (.slice aa M5.waits.length ca) := rfl
            have hB52 : (lookC M5 4 6 (.slice aa M5.waits.length ca) M5.time true)[52]? = some (.bool true) := rfl
            obtain ⟨tha, bla, rga, hlta⟩ := put_look wL (lookC M5 4 6 (.slice aa M5.waits.length ca) M5.time true) rfl
            have kV : Hid (∀ w', Calls Try.prog 37 #[.agg (lookC M5 4 6 (.slice aa M5.waits.length ca) M5.time true).toArray] w' fun r w'' => r = .returned (.int .i64 (M5.usedTo 6)) ∧ Below w'.heap.size w' w'') := fun w' => live_any _ M5 fun s hs => (hG s hs).1
            have kU : Hid (∀ w' B', w'.ownsRow B' 109 2 (.slice aa M5.waits.length ca) M5.waits.length (keyCells M5.waits) → Calls Try.prog 39 #[.agg (lookC M5 4 6 (.slice aa M5.waits.length ca) M5.time true).toArray] w' fun r w'' => r = .returned (.bool true) ∧ Below w'.heap.size w' w'') := fun w' B' own => once_any hS2 hwl own
            generalize lookC M5 4 6 (.slice aa M5.waits.length ca) M5.time true = LA at *
            have I3 := (I7.below ba).below bla
            have oa3 := look_own oa bla
            clear ba bla oa kL I7
            go_wp2_with (first | (refine wpList_store_mid rfl 63 _ _ rfl wL.heap.size 0 LA.toArray rfl rfl tha (by simpa using hIa) hOa ?_) | (refine wpList_load_mid rfl 63 _ rfl wL.heap.size 0 rfl LA _ rga Try.underlying63 rfl hIa ?_))
            refine (kV.out _).mono ?_
            rintro e wM ⟨rfl, bM⟩
            have I4 := I3.below bM
            have oa4 := look_own oa3 bM
            have rgb := range_below rga hlta bM
            have hltb := Nat.lt_of_lt_of_le hlta bM.size
            clear I3 oa3 rga tha hOa kV
            generalize (wL.alloc (.cells zeroL.toArray 63)).setCells wL.heap.size 0 LA = WL at *
            have v0 := I4.x.cell (k := 0) (u := .int .i64 M5.set.ch) rfl
            have v6 := I4.x.cell (k := 6) (u := .int .i64 M5.set.bl) rfl
            go_wp2_with fail
            refine (most_any R M5.set.ch _).mono ?_
            rintro e wQ ⟨rfl, rfl⟩
            go_wp2_with fail
            refine (most_any Q M5.set.bl _).mono ?_
            rintro e wQ ⟨rfl, rfl⟩
            have HR : Hid (M5.Sure true (mostI R M5.set.ch) (mostI Q M5.set.bl)) := hS2
            have HM1 : Hid (∀ w', Calls Try.prog 38 #[.int .i64 (M5.usedTo 6), .int .i64 M5.set.ch] w' fun r w'' => r = .returned (.int .i64 (mostI (M5.usedTo 6) M5.set.ch)) ∧ w'' = w') := fun w' => most_any _ _ w'
            have HM2 : Hid (∀ w', Calls Try.prog 38 #[.int .i64 (M5.waits.length : Nat), .int .i64 M5.set.bl] w' fun r w'' => r = .returned (.int .i64 (mostI (M5.waits.length : Nat) M5.set.bl)) ∧ w'' = w') := fun w' => most_any _ _ w'
            have hT : Hid (M5.Sure true (mostI (M5.usedTo 6) M5.set.ch) (mostI (M5.waits.length : Nat) M5.set.bl)) := hS2.narrow (mostI_le _ _).2 (mostI_le _ _).1 (mostI_le _ _).1 (mostI_le _ _).2
            clear hS2 v0 v6
            generalize mostI R M5.set.ch = R2 at *
            generalize mostI Q M5.set.bl = Q2 at *
            go_wp2_with (refine wpList_load_mid rfl 63 _ rfl wL.heap.size 0 rfl LA _ rgb Try.underlying63 rfl hIa ?_)
            refine (kU.out _ _ oa4).mono ?_
            rintro e wN ⟨rfl, bN⟩
            have I5 := I4.below bN
            have rgc := range_below rgb hltb bN
            have hltc := Nat.lt_of_lt_of_le hltb bN.size
            clear I4 oa4 rgb kU bM bN hIa
            have y50 : wN.cell? ⟨wL.heap.size, 50, none⟩ = some (.slice aa M5.waits.length ca) := rgc 50 _ hB50
            have y52 : wN.cell? ⟨wL.heap.size, 52, none⟩ = some (.bool true) := rgc 52 _ hB52
            have ys : ∀ w', Below wN.heap.size wN w' → ∀ s, s < 6 → w'.cell? ⟨wL.heap.size, 8 + s * 6 + 2, none⟩ = some (.int .i64 (M5.slot s).served) := fun w' hb' s hs => by
              have := range_below rgc hltc hb' (8 + s * 6 + 2) _ (hG s hs).2.2.1
              rwa [Nat.zero_add] at this
            clear rgc hG hB50 hB52
            have v0 := I5.x.cell (k := 0) (u := .int .i64 M5.set.ch) rfl
            have v1 := I5.x.cell (k := 1) (u := .bool M5.set.dyn) rfl
            have v4 := I5.x.cell (k := 4) (u := .int .i64 M5.set.mr) rfl
            have v6 := I5.x.cell (k := 6) (u := .int .i64 M5.set.bl) rfl
            have HF : Hid (BInv w xb fb o5 wN M5) := I5
            clear I5
            generalize hmr : M5.set.mr = mr at *
            generalize hch : M5.set.ch = ch at *
            generalize hbl2 : M5.set.bl = bl at *
            generalize hdy : M5.set.dyn = dy at *
            have hfl : dy = true ∨ ch ≤ M5.usedTo 6 := by
              cases dy
              · exact .inr (hful rfl)
              · exact .inl rfl
            clear hful
            generalize hu6 : M5.usedTo 6 = n6 at *
            generalize hw6 : M5.waits.length = nw at *
            have hwtI : ¬ ((nw : Int) > Q2) := by omega
            have husI : ¬ (n6 > R2) := by omega
            clear hus hwt hwl HR
            have vm : ∀ w', Below wN.heap.size wN w' → w'.cell? ⟨xb, 4, none⟩ = some (.int .i64 mr) := fun w' hb' => by
              have := (HF.out.below hb').x.cell (k := 4) (u := .int .i64 M5.set.mr) rfl
              rwa [hmr] at this
            cases dy
            · have hflI : ¬ (n6 < ch) := by
                rcases hfl with e | e
                · cases e
                · omega
              go_wp2_with fail
              refine (HM1.out _).mono ?_
              rintro e wQ ⟨rfl, rfl⟩
              go_wp2_with fail
              refine (HM2.out _).mono ?_
              rintro e wQ ⟨rfl, rfl⟩
              go_wp2
              go_loopw [15] (fun i w' => ∃ s : Nat, s ≤ 6 ∧ i = .int .i64 s ∧ Below wQ.heap.size wQ w') (fun i _ => 6 - (intOf i).toNat)
              case atStart => exact ⟨0, by omega, rfl, Below.refl _ _⟩
              case round =>
                obtain ⟨s, hs, rfl, bs⟩ := hrel
                by_cases hs6 : s < 6
                · have hsI : (s : Int) < 6 := by omega
                  have ysr := ys _ bs s hs6
                  have vmr := vm _ bs
                  clear ys vm
                  generalize (M5.slot s).served = sv at *
                  go_wp2
                  go_quiet (fail)
                  go_wp2
                  exact ⟨⟨s + 1, by omega, by go_num, below_dN bs⟩, by simp [intOf]; omega⟩
                · have hsI : ¬ ((s : Int) < 6) := by omega
                  go_wp2
                  exact ⟨⟨j + 1, M5, true, mostI n6 ch, mostI (nw : Nat) bl, o5, by omega, by go_num, rfl, rfl, rfl, HF.out.below bs, hT.out, F2⟩, by simp [intOf]; omega⟩
            · go_wp2_with fail
              refine (HM1.out _).mono ?_
              rintro e wQ ⟨rfl, rfl⟩
              go_wp2_with fail
              refine (HM2.out _).mono ?_
              rintro e wQ ⟨rfl, rfl⟩
              go_wp2
              go_loopw [15] (fun i w' => ∃ s : Nat, s ≤ 6 ∧ i = .int .i64 s ∧ Below wQ.heap.size wQ w') (fun i _ => 6 - (intOf i).toNat)
              case atStart => exact ⟨0, by omega, rfl, Below.refl _ _⟩
              case round =>
                obtain ⟨s, hs, rfl, bs⟩ := hrel
                by_cases hs6 : s < 6
                · have hsI : (s : Int) < 6 := by omega
                  have ysr := ys _ bs s hs6
                  have vmr := vm _ bs
                  clear ys vm
                  generalize (M5.slot s).served = sv at *
                  go_wp2
                  go_quiet (fail)
                  go_wp2
                  exact ⟨⟨s + 1, by omega, by go_num, below_dN bs⟩, by simp [intOf]; omega⟩
                · have hsI : ¬ ((s : Int) < 6) := by omega
                  go_wp2
                  exact ⟨⟨j + 1, M5, true, mostI n6 ch, mostI (nw : Nat) bl, o5, by omega, by go_num, rfl, rfl, rfl, HF.out.below bs, hT.out, F2⟩, by simp [intOf]; omega⟩
          · have hk8' : (kd == 8) = false := by simpa using hk8
            have hk7' : kd = 7 := by omega
            subst hk7'
            have hst := doM_set M (XJ.ofK 7) (by rw [hki]; omega)
            have hS2 := S1.doM (XJ.ofK 7) (by rw [hki]; omega)
            have I2 : BInv w xb fb o5 w5 (M.doM (XJ.ofK 7)) := ⟨s5, fr5, I1.xlt, xt5, by rw [hst]; exact x5⟩
            have F2 : (j + 1 ≤ nX → (M.doM (XJ.ofK 7)).Fit (ktot X (j + 1))) := fun _ => hF2
            clear hst s5 fr5 x5 xt5 hkt'
            generalize M.doM (XJ.ofK 7) = M2 at *
            have hBB : ktot X (j + 1) ≤ 48000000 := by omega
            have hwl := waits_few hF2 hBB
            have kL := bounds_look I2 hF2 hBB
            have hful := hS2.calm.full
            have hus := hS2.law.used
            have hwt := hS2.wts
            have hsrv := fun k hk => (hS2.law.loc k hk).srv
            go_wp2_with fail
            refine kL.mono ?_
            rintro e wL ⟨aa, ca, rfl, oa, ba⟩
            have hIa := lookC_info M2 (.slice aa M2.waits.length ca) M2.time true
            have hOa := lookC_one M2 aa M2.waits.length ca M2.time true
            have hG := fun s hs => lookC_get M2 s hs (.slice aa M2.waits.length ca) M2.time true
            have hB50 : (lookC M2 4 6 (.slice aa M2.waits.length ca) M2.time true)[50]? = some (.slice aa M2.waits.length ca) := rfl
            have hB52 : (lookC M2 4 6 (.slice aa M2.waits.length ca) M2.time true)[52]? = some (.bool true) := rfl
            obtain ⟨tha, bla, rga, hlta⟩ := put_look wL (lookC M2 4 6 (.slice aa M2.waits.length ca) M2.time true) rfl
            have kV : Hid (∀ w', Calls Try.prog 37 #[.agg (lookC M2 4 6 (.slice aa M2.waits.length ca) M2.time true).toArray] w' fun r w'' => r = .returned (.int .i64 (M2.usedTo 6)) ∧ Below w'.heap.size w' w'') := fun w' => live_any _ M2 fun s hs => (hG s hs).1
            have kU : Hid (∀ w' B', w'.ownsRow B' 109 2 (.slice aa M2.waits.length ca) M2.waits.length (keyCells M2.waits) → Calls Try.prog 39 #[.agg (lookC M2 4 6 (.slice aa M2.waits.length ca) M2.time true).toArray] w' fun r w'' => r = .returned (.bool true) ∧ Below w'.heap.size w' w'') := fun w' B' own => once_any hS2 hwl own
            generalize lookC M2 4 6 (.slice aa M2.waits.length ca) M2.time true = LA at *
            have I3 := (I2.below ba).below bla
            have oa3 := look_own oa bla
            clear ba bla oa kL
            go_wp2_with (first | (refine wpList_store_mid rfl 63 _ _ rfl wL.heap.size 0 LA.toArray rfl rfl tha (by simpa using hIa) hOa ?_) | (refine wpList_load_mid rfl 63 _ rfl wL.heap.size 0 rfl LA _ rga Try.underlying63 rfl hIa ?_))
            refine (kV.out _).mono ?_
            rintro e wM ⟨rfl, bM⟩
            have I4 := I3.below bM
            have oa4 := look_own oa3 bM
            have rgb := range_below rga hlta bM
            have hltb := Nat.lt_of_lt_of_le hlta bM.size
            clear I3 oa3 rga tha hOa kV
            generalize (wL.alloc (.cells zeroL.toArray 63)).setCells wL.heap.size 0 LA = WL at *
            go_wp2_with (refine wpList_load_mid rfl 63 _ rfl wL.heap.size 0 rfl LA _ rgb Try.underlying63 rfl hIa ?_)
            refine (kU.out _ _ oa4).mono ?_
            rintro e wN ⟨rfl, bN⟩
            have I5 := I4.below bN
            have rgc := range_below rgb hltb bN
            have hltc := Nat.lt_of_lt_of_le hltb bN.size
            clear I4 oa4 rgb kU bM bN hIa
            have y50 : wN.cell? ⟨wL.heap.size, 50, none⟩ = some (.slice aa M2.waits.length ca) := rgc 50 _ hB50
            have y52 : wN.cell? ⟨wL.heap.size, 52, none⟩ = some (.bool true) := rgc 52 _ hB52
            have ys : ∀ w', Below wN.heap.size wN w' → ∀ s, s < 6 → w'.cell? ⟨wL.heap.size, 8 + s * 6 + 2, none⟩ = some (.int .i64 (M2.slot s).served) := fun w' hb' s hs => by
              have := range_below rgc hltc hb' (8 + s * 6 + 2) _ (hG s hs).2.2.1
              rwa [Nat.zero_add] at this
            clear rgc hG hB50 hB52
            have v0 := I5.x.cell (k := 0) (u := .int .i64 M2.set.ch) rfl
            have v1 := I5.x.cell (k := 1) (u := .bool M2.set.dyn) rfl
            have v4 := I5.x.cell (k := 4) (u := .int .i64 M2.set.mr) rfl
            have HF : Hid (BInv w xb fb o5 wN M2) := I5
            have HS : Hid (M2.Sure a R Q) := hS2
            clear I5
            generalize hmr : M2.set.mr = mr at *
            generalize hch : M2.set.ch = ch at *
            generalize hdy : M2.set.dyn = dy at *
            have hfl : dy = true ∨ ch ≤ M2.usedTo 6 := by
              cases dy
              · exact .inr (hful rfl)
              · exact .inl rfl
            clear hful
            generalize hu6 : M2.usedTo 6 = n6 at *
            generalize hw6 : M2.waits.length = nw at *
            have hwtI : ¬ ((nw : Int) > Q) := by omega
            have husI : ¬ (n6 > R) := by omega
            have hsv2 : ∀ s, s < 6 → a = true ∨ (a = false ∧ decide (0 < mr) = false) ∨ (a = false ∧ decide (0 < mr) = true ∧ decide (mr < (M2.slot s).served) = false) := fun s hs => by
              cases a
              · right
                by_cases hm : 0 < mr
                · right
                  have := (hsrv s hs rfl hm).2.1
                  exact ⟨rfl, decide_eq_true hm, decide_eq_false (by omega)⟩
                · exact .inl ⟨rfl, decide_eq_false hm⟩
              · exact .inl rfl
            clear hsrv hus hwt hwl
            have vm : ∀ w', Below wN.heap.size wN w' → w'.cell? ⟨xb, 4, none⟩ = some (.int .i64 mr) := fun w' hb' => by
              have := (HF.out.below hb').x.cell (k := 4) (u := .int .i64 M2.set.mr) rfl
              rwa [hmr] at this
            cases dy
            · have hflI : ¬ (n6 < ch) := by
                rcases hfl with e | e
                · cases e
                · omega
              go_wp2
              go_loopw [15] (fun i w' => ∃ s : Nat, s ≤ 6 ∧ i = .int .i64 s ∧ Below wN.heap.size wN w') (fun i _ => 6 - (intOf i).toNat)
              case atStart => exact ⟨0, by omega, rfl, Below.refl _ _⟩
              case round =>
                obtain ⟨s, hs, rfl, bs⟩ := hrel
                by_cases hs6 : s < 6
                · have hsI : (s : Int) < 6 := by omega
                  have ysr := ys _ bs s hs6
                  have vmr := vm _ bs
                  have hsv3 := hsv2 s hs6
                  clear hsv2 ys vm
                  generalize (M2.slot s).served = sv at *
                  rcases hsv3 with e | e | e
                  · subst e
                    go_wp2
                    go_quiet (fail)
                    go_wp2
                    exact ⟨⟨s + 1, by omega, by go_num, below_dN bs⟩, by simp [intOf]; omega⟩
                  · obtain ⟨rfl, e1⟩ := e
                    go_wp2
                    go_quiet (fail)
                    go_wp2
                    exact ⟨⟨s + 1, by omega, by go_num, below_dN bs⟩, by simp [intOf]; omega⟩
                  · obtain ⟨rfl, e1, e2⟩ := e
                    go_wp2
                    go_quiet (fail)
                    go_wp2
                    exact ⟨⟨s + 1, by omega, by go_num, below_dN bs⟩, by simp [intOf]; omega⟩
                · have hsI : ¬ ((s : Int) < 6) := by omega
                  go_wp2
                  exact ⟨⟨j + 1, M2, a, R, Q, o5, by omega, by go_num, rfl, rfl, rfl, HF.out.below bs, HS.out, F2⟩, by simp [intOf] <;> omega⟩
            · go_wp2
              go_loopw [15] (fun i w' => ∃ s : Nat, s ≤ 6 ∧ i = .int .i64 s ∧ Below wN.heap.size wN w') (fun i _ => 6 - (intOf i).toNat)
              case atStart => exact ⟨0, by omega, rfl, Below.refl _ _⟩
              case round =>
                obtain ⟨s, hs, rfl, bs⟩ := hrel
                by_cases hs6 : s < 6
                · have hsI : (s : Int) < 6 := by omega
                  have ysr := ys _ bs s hs6
                  have vmr := vm _ bs
                  have hsv3 := hsv2 s hs6
                  clear hsv2 ys vm
                  generalize (M2.slot s).served = sv at *
                  rcases hsv3 with e | e | e
                  · subst e
                    go_wp2
                    go_quiet (fail)
                    go_wp2
                    exact ⟨⟨s + 1, by omega, by go_num, below_dN bs⟩, by simp [intOf]; omega⟩
                  · obtain ⟨rfl, e1⟩ := e
                    go_wp2
                    go_quiet (fail)
                    go_wp2
                    exact ⟨⟨s + 1, by omega, by go_num, below_dN bs⟩, by simp [intOf]; omega⟩
                  · obtain ⟨rfl, e1, e2⟩ := e
                    go_wp2
                    go_quiet (fail)
                    go_wp2
                    exact ⟨⟨s + 1, by omega, by go_num, below_dN bs⟩, by simp [intOf]; omega⟩
                · have hsI : ¬ ((s : Int) < 6) := by omega
                  go_wp2
                  exact ⟨⟨j + 1, M2, a, R, Q, o5, by omega, by go_num, rfl, rfl, rfl, HF.out.below bs, HS.out, F2⟩, by simp [intOf] <;> omega⟩
      · have hk9' : kd = 9 := by omega
        subst hk9'
        clear c0 c1 c2 c3 c4 c5 c6 c7 c8 c9 c10 c11
        have hF2 : M.Fit (ktot X (j + 1)) := hFit.mono (by omega)
        have F2 : (j + 1 ≤ nX → M.Fit (ktot X (j + 1))) := fun _ => hF2
        have hBB : ktot X (j + 1) ≤ 48000000 := by omega
        have hwl := waits_few hF2 hBB
        have kL := bounds_look I1 hF2 hBB
        have hful := S1.calm.full
        have hus := S1.law.used
        have hwt := S1.wts
        have hsrv := fun k hk => (S1.law.loc k hk).srv
        go_wp2_with fail
        refine kL.mono ?_
        rintro e wL ⟨aa, ca, rfl, oa, ba⟩
        have hIa := lookC_info M (.slice aa M.waits.length ca) M.time true
        have hOa := lookC_one M aa M.waits.length ca M.time true
        have hG := fun s hs => lookC_get M s hs (.slice aa M.waits.length ca) M.time true
        have hB50 : (lookC M 4 6 (.slice aa M.waits.length ca) M.time true)[50]? = some (.slice aa M.waits.length ca) := rfl
        have hB52 : (lookC M 4 6 (.slice aa M.waits.length ca) M.time true)[52]? = some (.bool true) := rfl
        obtain ⟨tha, bla, rga, hlta⟩ := put_look wL (lookC M 4 6 (.slice aa M.waits.length ca) M.time true) rfl
        have kV : Hid (∀ w', Calls Try.prog 37 #[.agg (lookC M 4 6 (.slice aa M.waits.length ca) M.time true).toArray] w' fun r w'' => r = .returned (.int .i64 (M.usedTo 6)) ∧ Below w'.heap.size w' w'') := fun w' => live_any _ M fun s hs => (hG s hs).1
        have kU : Hid (∀ w' B', w'.ownsRow B' 109 2 (.slice aa M.waits.length ca) M.waits.length (keyCells M.waits) → Calls Try.prog 39 #[.agg (lookC M 4 6 (.slice aa M.waits.length ca) M.time true).toArray] w' fun r w'' => r = .returned (.bool true) ∧ Below w'.heap.size w' w'') := fun w' B' own => once_any S1 hwl own
        generalize lookC M 4 6 (.slice aa M.waits.length ca) M.time true = LA at *
        have I3 := (I1.below ba).below bla
        have oa3 := look_own oa bla
        clear ba bla oa kL
        go_wp2_with (first | (refine wpList_store_mid rfl 63 _ _ rfl wL.heap.size 0 LA.toArray rfl rfl tha (by simpa using hIa) hOa ?_) | (refine wpList_load_mid rfl 63 _ rfl wL.heap.size 0 rfl LA _ rga Try.underlying63 rfl hIa ?_))
        refine (kV.out _).mono ?_
        rintro e wM ⟨rfl, bM⟩
        have I4 := I3.below bM
        have oa4 := look_own oa3 bM
        have rgb := range_below rga hlta bM
        have hltb := Nat.lt_of_lt_of_le hlta bM.size
        clear I3 oa3 rga tha hOa kV
        generalize (wL.alloc (.cells zeroL.toArray 63)).setCells wL.heap.size 0 LA = WL at *
        go_wp2_with (refine wpList_load_mid rfl 63 _ rfl wL.heap.size 0 rfl LA _ rgb Try.underlying63 rfl hIa ?_)
        refine (kU.out _ _ oa4).mono ?_
        rintro e wN ⟨rfl, bN⟩
        have I5 := I4.below bN
        have rgc := range_below rgb hltb bN
        have hltc := Nat.lt_of_lt_of_le hltb bN.size
        clear I4 oa4 rgb kU bM bN hIa
        have y50 : wN.cell? ⟨wL.heap.size, 50, none⟩ = some (.slice aa M.waits.length ca) := rgc 50 _ hB50
        have y52 : wN.cell? ⟨wL.heap.size, 52, none⟩ = some (.bool true) := rgc 52 _ hB52
        have ys : ∀ w', Below wN.heap.size wN w' → ∀ s, s < 6 → w'.cell? ⟨wL.heap.size, 8 + s * 6 + 2, none⟩ = some (.int .i64 (M.slot s).served) := fun w' hb' s hs => by
          have := range_below rgc hltc hb' (8 + s * 6 + 2) _ (hG s hs).2.2.1
          rwa [Nat.zero_add] at this
        clear rgc hG hB50 hB52
        have v0 := I5.x.cell (k := 0) (u := .int .i64 M.set.ch) rfl
        have v1 := I5.x.cell (k := 1) (u := .bool M.set.dyn) rfl
        have v4 := I5.x.cell (k := 4) (u := .int .i64 M.set.mr) rfl
        have HF : Hid (BInv w xb fb o1 wN M) := I5
        have HS : Hid (M.Sure a R Q) := S1
        clear I5
        generalize hmr : M.set.mr = mr at *
        generalize hch : M.set.ch = ch at *
        generalize hdy : M.set.dyn = dy at *
        have hfl : dy = true ∨ ch ≤ M.usedTo 6 := by
          cases dy
          · exact .inr (hful rfl)
          · exact .inl rfl
        clear hful
        generalize hu6 : M.usedTo 6 = n6 at *
        generalize hw6 : M.waits.length = nw at *
        have hwtI : ¬ ((nw : Int) > Q) := by omega
        have husI : ¬ (n6 > R) := by omega
        have hsv2 : ∀ s, s < 6 → a = true ∨ (a = false ∧ decide (0 < mr) = false) ∨ (a = false ∧ decide (0 < mr) = true ∧ decide (mr < (M.slot s).served) = false) := fun s hs => by
          cases a
          · right
            by_cases hm : 0 < mr
            · right
              have := (hsrv s hs rfl hm).2.1
              exact ⟨rfl, decide_eq_true hm, decide_eq_false (by omega)⟩
            · exact .inl ⟨rfl, decide_eq_false hm⟩
          · exact .inl rfl
        clear hsrv hus hwt hwl
        have vm : ∀ w', Below wN.heap.size wN w' → w'.cell? ⟨xb, 4, none⟩ = some (.int .i64 mr) := fun w' hb' => by
          have := (HF.out.below hb').x.cell (k := 4) (u := .int .i64 M.set.mr) rfl
          rwa [hmr] at this
        cases dy
        · have hflI : ¬ (n6 < ch) := by
            rcases hfl with e | e
            · cases e
            · omega
          go_wp2
          go_loopw [15] (fun i w' => ∃ s : Nat, s ≤ 6 ∧ i = .int .i64 s ∧ Below wN.heap.size wN w') (fun i _ => 6 - (intOf i).toNat)
          case atStart => exact ⟨0, by omega, rfl, Below.refl _ _⟩
          case round =>
            obtain ⟨s, hs, rfl, bs⟩ := hrel
            by_cases hs6 : s < 6
            · have hsI : (s : Int) < 6 := by omega
              have ysr := ys _ bs s hs6
              have vmr := vm _ bs
              have hsv3 := hsv2 s hs6
              clear hsv2 ys vm
              generalize (M.slot s).served = sv at *
              rcases hsv3 with e | e | e
              · subst e
                go_wp2
                go_quiet (fail)
                go_wp2
                exact ⟨⟨s + 1, by omega, by go_num, below_dN bs⟩, by simp [intOf]; omega⟩
              · obtain ⟨rfl, e1⟩ := e
                go_wp2
                go_quiet (fail)
                go_wp2
                exact ⟨⟨s + 1, by omega, by go_num, below_dN bs⟩, by simp [intOf]; omega⟩
              · obtain ⟨rfl, e1, e2⟩ := e
                go_wp2
                go_quiet (fail)
                go_wp2
                exact ⟨⟨s + 1, by omega, by go_num, below_dN bs⟩, by simp [intOf]; omega⟩
            · have hsI : ¬ ((s : Int) < 6) := by omega
              go_wp2
              exact ⟨⟨j + 1, M, a, R, Q, o1, by omega, by go_num, rfl, rfl, rfl, HF.out.below bs, HS.out, F2⟩, by simp [intOf] <;> omega⟩
        · go_wp2
          go_loopw [15] (fun i w' => ∃ s : Nat, s ≤ 6 ∧ i = .int .i64 s ∧ Below wN.heap.size wN w') (fun i _ => 6 - (intOf i).toNat)
          case atStart => exact ⟨0, by omega, rfl, Below.refl _ _⟩
          case round =>
            obtain ⟨s, hs, rfl, bs⟩ := hrel
            by_cases hs6 : s < 6
            · have hsI : (s : Int) < 6 := by omega
              have ysr := ys _ bs s hs6
              have vmr := vm _ bs
              have hsv3 := hsv2 s hs6
              clear hsv2 ys vm
              generalize (M.slot s).served = sv at *
              rcases hsv3 with e | e | e
              · subst e
                go_wp2
                go_quiet (fail)
                go_wp2
                exact ⟨⟨s + 1, by omega, by go_num, below_dN bs⟩, by simp [intOf]; omega⟩
              · obtain ⟨rfl, e1⟩ := e
                go_wp2
                go_quiet (fail)
                go_wp2
                exact ⟨⟨s + 1, by omega, by go_num, below_dN bs⟩, by simp [intOf]; omega⟩
              · obtain ⟨rfl, e1, e2⟩ := e
                go_wp2
                go_quiet (fail)
                go_wp2
                exact ⟨⟨s + 1, by omega, by go_num, below_dN bs⟩, by simp [intOf]; omega⟩
            · have hsI : ¬ ((s : Int) < 6) := by omega
              go_wp2
              exact ⟨⟨j + 1, M, a, R, Q, o1, by omega, by go_num, rfl, rfl, rfl, HF.out.below bs, HS.out, F2⟩, by simp [intOf] <;> omega⟩
    · by_cases hjn : j = nX
      · subst hjn
        have hjI : ¬ ((j : Int) < j) := by omega
        have hFit := F1 (by omega)
        have F2 : (j + 1 ≤ j → M.Fit (ktot X (j + 1))) := fun h => absurd h (by omega)
        have hBB : ktot X j ≤ 48000000 := by omega
        have hwl := waits_few hFit hBB
        have kL := bounds_look I1 hFit hBB
        have hful := S1.calm.full
        have hus := S1.law.used
        have hwt := S1.wts
        have hsrv := fun k hk => (S1.law.loc k hk).srv
        go_wp2_with fail
        refine kL.mono ?_
        rintro e wL ⟨aa, ca, rfl, oa, ba⟩
        have hIa := lookC_info M (.slice aa M.waits.length ca) M.time true
        have hOa := lookC_one M aa M.waits.length ca M.time true
        have hG := fun s hs => lookC_get M s hs (.slice aa M.waits.length ca) M.time true
        have hB50 : (lookC M 4 6 (.slice aa M.waits.length ca) M.time true)[50]? = some (.slice aa M.waits.length ca) := rfl
        have hB52 : (lookC M 4 6 (.slice aa M.waits.length ca) M.time true)[52]? = some (.bool true) := rfl
        obtain ⟨tha, bla, rga, hlta⟩ := put_look wL (lookC M 4 6 (.slice aa M.waits.length ca) M.time true) rfl
        have kV : Hid (∀ w', Calls Try.prog 37 #[.agg (lookC M 4 6 (.slice aa M.waits.length ca) M.time true).toArray] w' fun r w'' => r = .returned (.int .i64 (M.usedTo 6)) ∧ Below w'.heap.size w' w'') := fun w' => live_any _ M fun s hs => (hG s hs).1
        have kU : Hid (∀ w' B', w'.ownsRow B' 109 2 (.slice aa M.waits.length ca) M.waits.length (keyCells M.waits) → Calls Try.prog 39 #[.agg (lookC M 4 6 (.slice aa M.waits.length ca) M.time true).toArray] w' fun r w'' => r = .returned (.bool true) ∧ Below w'.heap.size w' w'') := fun w' B' own => once_any S1 hwl own
        generalize lookC M 4 6 (.slice aa M.waits.length ca) M.time true = LA at *
        have I3 := (I1.below ba).below bla
        have oa3 := look_own oa bla
        clear ba bla oa kL
        go_wp2_with (first | (refine wpList_store_mid rfl 63 _ _ rfl wL.heap.size 0 LA.toArray rfl rfl tha (by simpa using hIa) hOa ?_) | (refine wpList_load_mid rfl 63 _ rfl wL.heap.size 0 rfl LA _ rga Try.underlying63 rfl hIa ?_))
        refine (kV.out _).mono ?_
        rintro e wM ⟨rfl, bM⟩
        have I4 := I3.below bM
        have oa4 := look_own oa3 bM
        have rgb := range_below rga hlta bM
        have hltb := Nat.lt_of_lt_of_le hlta bM.size
        clear I3 oa3 rga tha hOa kV
        generalize (wL.alloc (.cells zeroL.toArray 63)).setCells wL.heap.size 0 LA = WL at *
        go_wp2_with (refine wpList_load_mid rfl 63 _ rfl wL.heap.size 0 rfl LA _ rgb Try.underlying63 rfl hIa ?_)
        refine (kU.out _ _ oa4).mono ?_
        rintro e wN ⟨rfl, bN⟩
        have I5 := I4.below bN
        have rgc := range_below rgb hltb bN
        have hltc := Nat.lt_of_lt_of_le hltb bN.size
        clear I4 oa4 rgb kU bM bN hIa
        have y50 : wN.cell? ⟨wL.heap.size, 50, none⟩ = some (.slice aa M.waits.length ca) := rgc 50 _ hB50
        have y52 : wN.cell? ⟨wL.heap.size, 52, none⟩ = some (.bool true) := rgc 52 _ hB52
        have ys : ∀ w', Below wN.heap.size wN w' → ∀ s, s < 6 → w'.cell? ⟨wL.heap.size, 8 + s * 6 + 2, none⟩ = some (.int .i64 (M.slot s).served) := fun w' hb' s hs => by
          have := range_below rgc hltc hb' (8 + s * 6 + 2) _ (hG s hs).2.2.1
          rwa [Nat.zero_add] at this
        clear rgc hG hB50 hB52
        have v0 := I5.x.cell (k := 0) (u := .int .i64 M.set.ch) rfl
        have v1 := I5.x.cell (k := 1) (u := .bool M.set.dyn) rfl
        have v4 := I5.x.cell (k := 4) (u := .int .i64 M.set.mr) rfl
        have HF : Hid (BInv w xb fb o1 wN M) := I5
        have HS : Hid (M.Sure a R Q) := S1
        clear I5
        generalize hmr : M.set.mr = mr at *
        generalize hch : M.set.ch = ch at *
        generalize hdy : M.set.dyn = dy at *
        have hfl : dy = true ∨ ch ≤ M.usedTo 6 := by
          cases dy
          · exact .inr (hful rfl)
          · exact .inl rfl
        clear hful
        generalize hu6 : M.usedTo 6 = n6 at *
        generalize hw6 : M.waits.length = nw at *
        have hwtI : ¬ ((nw : Int) > Q) := by omega
        have husI : ¬ (n6 > R) := by omega
        have hsv2 : ∀ s, s < 6 → a = true ∨ (a = false ∧ decide (0 < mr) = false) ∨ (a = false ∧ decide (0 < mr) = true ∧ decide (mr < (M.slot s).served) = false) := fun s hs => by
          cases a
          · right
            by_cases hm : 0 < mr
            · right
              have := (hsrv s hs rfl hm).2.1
              exact ⟨rfl, decide_eq_true hm, decide_eq_false (by omega)⟩
            · exact .inl ⟨rfl, decide_eq_false hm⟩
          · exact .inl rfl
        clear hsrv hus hwt hwl
        have vm : ∀ w', Below wN.heap.size wN w' → w'.cell? ⟨xb, 4, none⟩ = some (.int .i64 mr) := fun w' hb' => by
          have := (HF.out.below hb').x.cell (k := 4) (u := .int .i64 M.set.mr) rfl
          rwa [hmr] at this
        cases dy
        · have hflI : ¬ (n6 < ch) := by
            rcases hfl with e | e
            · cases e
            · omega
          go_wp2
          go_loopw [15] (fun i w' => ∃ s : Nat, s ≤ 6 ∧ i = .int .i64 s ∧ Below wN.heap.size wN w') (fun i _ => 6 - (intOf i).toNat)
          case atStart => exact ⟨0, by omega, rfl, Below.refl _ _⟩
          case round =>
            obtain ⟨s, hs, rfl, bs⟩ := hrel
            by_cases hs6 : s < 6
            · have hsI : (s : Int) < 6 := by omega
              have ysr := ys _ bs s hs6
              have vmr := vm _ bs
              have hsv3 := hsv2 s hs6
              clear hsv2 ys vm
              generalize (M.slot s).served = sv at *
              rcases hsv3 with e | e | e
              · subst e
                go_wp2
                go_quiet (fail)
                go_wp2
                exact ⟨⟨s + 1, by omega, by go_num, below_dN bs⟩, by simp [intOf]; omega⟩
              · obtain ⟨rfl, e1⟩ := e
                go_wp2
                go_quiet (fail)
                go_wp2
                exact ⟨⟨s + 1, by omega, by go_num, below_dN bs⟩, by simp [intOf]; omega⟩
              · obtain ⟨rfl, e1, e2⟩ := e
                go_wp2
                go_quiet (fail)
                go_wp2
                exact ⟨⟨s + 1, by omega, by go_num, below_dN bs⟩, by simp [intOf]; omega⟩
            · have hsI : ¬ ((s : Int) < 6) := by omega
              go_wp2
              exact ⟨⟨j + 1, M, a, R, Q, o1, by omega, by go_num, rfl, rfl, rfl, HF.out.below bs, HS.out, F2⟩, by simp [intOf] <;> omega⟩
        · go_wp2
          go_loopw [15] (fun i w' => ∃ s : Nat, s ≤ 6 ∧ i = .int .i64 s ∧ Below wN.heap.size wN w') (fun i _ => 6 - (intOf i).toNat)
          case atStart => exact ⟨0, by omega, rfl, Below.refl _ _⟩
          case round =>
            obtain ⟨s, hs, rfl, bs⟩ := hrel
            by_cases hs6 : s < 6
            · have hsI : (s : Int) < 6 := by omega
              have ysr := ys _ bs s hs6
              have vmr := vm _ bs
              have hsv3 := hsv2 s hs6
              clear hsv2 ys vm
              generalize (M.slot s).served = sv at *
              rcases hsv3 with e | e | e
              · subst e
                go_wp2
                go_quiet (fail)
                go_wp2
                exact ⟨⟨s + 1, by omega, by go_num, below_dN bs⟩, by simp [intOf]; omega⟩
              · obtain ⟨rfl, e1⟩ := e
                go_wp2
                go_quiet (fail)
                go_wp2
                exact ⟨⟨s + 1, by omega, by go_num, below_dN bs⟩, by simp [intOf]; omega⟩
              · obtain ⟨rfl, e1, e2⟩ := e
                go_wp2
                go_quiet (fail)
                go_wp2
                exact ⟨⟨s + 1, by omega, by go_num, below_dN bs⟩, by simp [intOf]; omega⟩
            · have hsI : ¬ ((s : Int) < 6) := by omega
              go_wp2
              exact ⟨⟨j + 1, M, a, R, Q, o1, by omega, by go_num, rfl, rfl, rfl, HF.out.below bs, HS.out, F2⟩, by simp [intOf] <;> omega⟩
      · have hj2 : j = nX + 1 := by omega
        have hjI : ¬ ((j : Int) ≤ nX) := by omega
        go_wp2
        go_ret
        have fxF := I1.fr
        exact ⟨rfl, fxF.os, fxF.tape, fxF.output, fxF.size, fun g hg => fxF.block g hg rfl⟩
end Go.Proofs.Ytlafkpaljibonaa

namespace Go.Proofs.Ytlafkpaljibonaa.bounds
open Go.ChangeShapes Go.WideShapes Go.ChangeAt Go.RowKit Go.Joins Go.Deep Go.Proofs.Ytlafkpaljibonaa Go.Proofs.Ytlafkpaljibonaa.kscript

set_option maxRecDepth 100000 in
theorem contract (H : Type) (enc : TypeId × Value → H) (W : World) (base : Nat) (args : Array Value) (ds gs : List (DataW H)) (before : List MemPlace)
    (hval : ∀ (j : Nat) t v, Try.f8.params[j]? = some t → args[j]? = some v → Value.okWide Try.prog W .any base t v)
    (hW : DataW.Whole enc Try.prog Try.f8.params.toList Rows.boundsSpec.vars false W args.toList ds gs before) (hk : Rows.uptoSmall H (ds ++ gs) = true) :
    Calls Try.prog 8 args W fun e W' => ∃ v, e = .returned v ∧ Rows.boundsSpec.post enc Try.prog Try.f8 false true false false W args v W' := by
  have hW' := hW
  obtain ⟨p, q, hA0, hV, rfl, hfz, hnd⟩ := hW
  have hA : DataW.TrodAll enc Try.prog W 0 (fun _ => true) true Try.f8.params.toList args.toList ds p := hA0
  rw [Try.params8] at hA hval
  obtain ⟨v0, vs0, d0, ds0, p0, q0, hargs, rfl, rfl, h0, r0⟩ := trodAll_cons hA
  obtain ⟨v1, vs1, d1, ds1, p1, q1, rfl, rfl, rfl, h1, r1⟩ := trodAll_cons r0
  obtain ⟨rfl, rfl, rfl⟩ := trodAll_nil r1
  obtain rfl : args = #[v0, v1] := by cases args; simp_all
  obtain ⟨rfl, rfl⟩ := trodVars_none hV
  have k0 := h0
  have k1 := h1
  have lt0 : ∀ x ∈ p0, x.block < W.heap.size := by obtain ⟨m, hm⟩ := k0; exact DataW.trod_lt m _ _ _ hm
  have lt1 : ∀ x ∈ p1, x.block < W.heap.size := by obtain ⟨m, hm⟩ := k1; exact DataW.trod_lt m _ _ _ hm
  obtain ⟨c, rfl, hc64⟩ := cfg_of (hval 0 44 v0 rfl rfl) h0
  obtain ⟨a1, len1, cap1, rfl⟩ := okWide_slice Try.underlying45 (hval 1 45 v1 rfl rfl)
  obtain ⟨X, hX, hX64, hXs⟩ := steps_of h1
  clear hA0
  simp only [List.append_nil] at hW' hk
  have hb : Rows.uptoBulkAll _ ≤ 1048576 := of_decide_eq_true hk
  simp only [Rows.uptoBulkAll] at hb
  refine (bounds_any c hc64 a1 len1 cap1 X W hX hX64 (by omega)).mono fun e W' ⟨he, bel⟩ => ?_
  subst he
  exact ⟨_, rfl, _, _, _, [], _, [], hW', trodAll_mk1 (shut_bool Try.underlying4 _), (trodAll_cons_mk (Below.trod laidOut (by kernel_rfl) (of_decide_eq_true (by kernel_rfl)) k0 bel lt0) (trodAll_cons_mk (Below.trod laidOut (by kernel_rfl) (of_decide_eq_true (by kernel_rfl)) k1 bel lt1) trodAll_mk0)), rfl, bel.frame _, fun h => by cases h⟩

set_option maxRecDepth 100000 in
theorem lifted (os : Os) (started : os.Started) (H : Type) (enc : TypeId × Value → H) (F : Stop.Interp) :
    ReturnsInHanded {} Try.checked os 8 .any ((Rows.OpenSpec.upto Rows.boundsSpec).pre6 enc Try.prog Try.f8 Rows.boundsUptoRow.domain false) (((Rows.OpenSpec.upto Rows.boundsSpec).at F).post enc Try.prog Try.f8 false true false false) := by
  refine returnsInHanded_of_cond (C := Try.checked) (s := Rows.OpenSpec.upto Rows.boundsSpec) (k := Rows.uptoSmall) rfl own started (by kernel_rfl) Try.func8
    (OpenSpec.witness (enc := enc) (C := Try.checked) (s := Rows.OpenSpec.upto Rows.boundsSpec) (k := Rows.uptoSmall) rfl false ⟨#[], #[.agg #[.int .i64 0, .bool false, .int .i64 0, .int .i64 0, .int .i64 0, .int .i64 0, .int .i64 0], .slice none 0 0], []⟩ 8 (by kernel_rfl) (by kernel_rfl) (by kernel_rfl)
      (x := ([.agg [.lit (.int .i64 0), .lit (.bool false), .lit (.int .i64 0), .lit (.int .i64 0), .lit (.int .i64 0), .lit (.int .i64 0), .lit (.int .i64 0)], .nil], [], [])) (by kernel_rfl) rfl (by kernel_rfl)) ?_
  intro W base args ds gs before hval hW _ hk _
  exact contract H enc W base args ds gs before hval hW hk

set_option maxRecDepth 100000 in
theorem proved : Rows.BoundsUptoSaid :=
  OpenClaim.holds_of_cond 8 Try.f8 rfl rfl rfl rfl rfl rfl rfl ⟨rfl, rfl, rfl, rfl, rfl⟩ rfl rfl rfl rfl rfl (by kernel_rfl) Try.func8 (by kernel_rfl)
    (of_decide_eq_true (by kernel_rfl)) (by unfold Func.isWrapper; first | (rw [if_pos (by decide +kernel)]; kernel_rfl) | (rw [if_neg (by decide +kernel)]; exact ⟨rfl, rfl⟩))
    (fun os started H enc _ F => lifted os started H enc F)
#print axioms proved
end Go.Proofs.Ytlafkpaljibonaa.bounds
