import Derived.Test.YtlafkpaljibonaaJ15
import Derived.Test.YtlafkpaljibonaaJ12
namespace Go.Proofs.Ytlafkpaljibonaa
open Go.RowKit

set_option maxRecDepth 100000 in
set_option maxHeartbeats 16000000 in
theorem drained_any (c : Cfg) (hc : c.in64) (aX : Option Addr) (nX cX : Nat) (X : Nat → KSt) (w : World)
    (hX : IsKSteps w aX nX X) (hX64 : ∀ k, k < nX → (X k).in64) (hsum : ktot X nX ≤ 40000000) :
    Calls Try.prog 9 #[c.val, .slice aX nX cX] w fun r w' => r = .returned (.bool true) ∧ Below w.heap.size w w' := by
  have kS : Hid (∀ w', Calls Try.prog 21 #[c.val] w' fun r w'' => r = .returned (setC c).val ∧ Below w'.heap.size w' w'') := fun w' => settings_any c hc w'
  have kO : Hid (∀ (o : Nat → Tag) w', Clean o w' → Calls Try.prog 22 #[(setC c).val] w' fun r w'' => ∃ b o', r = .returned (.pointer (some ⟨b, 0, none⟩)) ∧ FMem o' 1 w'' b (newPM (setC c)) nilV (.slice none 0 0) ∧ Fr 1 o w' o' w'') := fun o w' ho => opened_any (setC c) (setC_ok c) ho
  have hF0 : (newPM (setC c)).Fit 0 := new_fit _
  have hT0 : (newPM (setC c)).Tidy (fun _ _ => 0) := new_tidy _ (setC_ok c)
  have hgX := ktot_ge X nX
  generalize newPM (setC c) = m0 at *
  generalize setC c = SC at *
  unfold Cfg.val at *
  have hb0 : Below w.heap.size w (w.alloc (.cells #[.int .i64 c.ch, .bool c.dyn, .int .i64 c.mn, .int .i64 c.mx, .int .i64 c.mr, .int .i64 c.tmo, .int .i64 c.bl] 44)) := (Below.refl _ _).alloc (Nat.le_refl _) _
  go_enter Try.func9, Try.ntmps9
  go_wp2_with fail
  refine (kS.out _).mono ?_
  rintro e w1 ⟨rfl, hb1⟩
  have hb01 := hb0.trans (hb1.mono hb0.size)
  have hbx : Below w1.heap.size w1 (w1.alloc (.cells #[.int .i64 SC.ch, .bool SC.dyn, .int .i64 SC.mn, .int .i64 SC.mx, .int .i64 SC.mr, .int .i64 SC.tmo, .int .i64 SC.bl] 44)) := (Below.refl _ _).alloc (Nat.le_refl _) _
  have hb2 := hb01.trans (hbx.mono hb01.size)
  clear hb0 hb1
  go_wp2_with fail
  clear hbx
  generalize w1.alloc (.cells #[.int .i64 SC.ch, .bool SC.dyn, .int .i64 SC.mn, .int .i64 SC.mx, .int .i64 SC.mr, .int .i64 SC.tmo, .int .i64 SC.bl] 44) = w2 at *
  refine (kO.out noK _ (fun _ _ => rfl)).mono ?_
  rintro e w3 ⟨fb, o3, rfl, hm3, fr3⟩
  have fx3 : FrN noK w o3 w3 := (FrN.of_below (o := noK) (fun _ _ => rfl) hb2).trans (fr3.toN (by omega))
  have hbg : Below w3.heap.size w3 (w3.alloc (.cells (begC fun _ _ => 0).toArray 80)) := (Below.refl _ _).alloc (Nat.le_refl _) _
  have g0 := Blk.made w3 80 (begC fun _ _ => 0)
  have D0 : DInv w w3.heap.size fb o3 _ m0 (fun _ _ => 0) := ⟨⟨_, _, hm3.below hbg⟩, fx3.below hbg, fx3.size, hm3.clean _ (Nat.le_refl _), g0⟩
  go_wp2
  clear hm3 fr3 hb2 hb01 kO kS fx3 hbg g0
  have HM0 : Hid (m0 = m0.doTo X 0 ∧ (fun _ _ => 0) = m0.begTo X 0) := ⟨rfl, rfl⟩
  generalize w3.heap.size = gb at *
  go_loopw [8] (fun i w' => ∃ (j : Nat) (o' : Nat → Tag), j ≤ nX ∧ i = .int .i64 j ∧ DInv w gb fb o' w' (m0.doTo X j) (m0.begTo X j)) (fun i _ => nX - (intOf i).toNat)
  case atStart => exact ⟨0, o3, by omega, rfl, D0⟩
  case round =>
    clear D0 HM0
    obtain ⟨j, o1, hj, rfl, D1⟩ := hrel
    by_cases hlt : j < nX
    · obtain ⟨bb, off, rfl, hcell⟩ : ∃ bb off, aX = some ⟨bb, off, none⟩ ∧ ∀ o' w', FrN noK w o' w' → ∀ i u, ((X j).cells)[i]? = some u → w'.cell? ⟨bb, off + j * 12 + i, none⟩ = some u := by
        rcases hX with e | ⟨bb, off, e, hbl, hcc⟩
        · omega
        · exact ⟨bb, off, e, fun o' w' hf i u hu => by rw [World.cell?_of_block (hf.block bb hbl rfl)]; exact hcc j hlt i u hu⟩
      have hjI : (j : Int) < nX := by omega
      have hFit : (m0.doTo X j).Fit (0 + ktot X j) := hF0.doTo X j
      have hkt := ktot_mono X (show j + 1 ≤ nX from hlt)
      have hkt' : ktot X (j + 1) = ktot X j + (X j).s.size + 520 := rfl
      have hx64 := hX64 j hlt
      have hbd := begTo_bd m0 X j
      have HD : Hid (m0.doTo X (j + 1) = (m0.doTo X j).doM (X j)) := rfl
      have HG : Hid (m0.begTo X (j + 1) = begB (m0.begTo X j) (m0.doTo X j) (X j)) := rfl
      have hcs := begB_cases (m0.begTo X j) (m0.doTo X j) (X j)
      obtain ⟨hc4, hcn, -⟩ := cn_nat (X j)
      have p1 := pickI_bd (X j).c 6 (by omega)
      have kD : Hid (∀ o' w', DInv w gb fb o' w' (m0.doTo X j) (m0.begTo X j) → Calls Try.prog 23 #[.pointer (some ⟨fb, 0, none⟩), .agg (X j).cells.toArray] w' fun r w'' => r = .returned (.int .i64 ((m0.doTo X j).doE (X j))) ∧ ∃ o'', DInv w gb fb o'' w'' ((m0.doTo X j).doM (X j)) (m0.begTo X j) ∧ FrN o' w' o'' w'') := fun o' w' h' => drained_do h' hFit (by omega) (X j) hx64 (by omega)
      have kA : Hid (∀ w', Calls Try.prog 15 #[.int .i64 (X j).a, .int .i64 4] w' fun r w'' => r = .returned (.int .i64 ((X j).cn.toNat : Nat)) ∧ w'' = w') := fun w' => by rw [hcn]; exact pick_any _ _ w' hx64.2.1.1 hx64.2.1.2 (by omega) (by omega)
      have kK : Hid (∀ w', Calls Try.prog 15 #[.int .i64 (X j).kind, .int .i64 9] w' fun r w'' => r = .returned (.int .i64 (X j).ki) ∧ w'' = w') := fun w' => pick_any _ _ w' hx64.1.1 hx64.1.2 (by omega) (by omega)
      have kB : Hid (∀ w', Calls Try.prog 15 #[.int .i64 (X j).b, .int .i64 4] w' fun r w'' => r = .returned (.int .i64 (pickI (X j).b 4)) ∧ w'' = w') := fun w' => pick_any _ _ w' hx64.2.2.1.1 hx64.2.2.1.2 (by omega) (by omega)
      have kC : Hid (∀ w', Calls Try.prog 15 #[.int .i64 (X j).c, .int .i64 6] w' fun r w'' => r = .returned (.int .i64 (pickI (X j).c 6)) ∧ w'' = w') := fun w' => pick_any _ _ w' hx64.2.2.2.1.1 hx64.2.2.2.1.2 (by omega) (by omega)
      have hid : (X j).id = 1 + pickI (X j).c 6 := rfl
      clear hFit hkt hkt' hx64 hcn
      generalize (m0.doTo X j).doM (X j) = M2 at *
      generalize (m0.doTo X j).doE (X j) = EE at *
      generalize m0.doTo X j = M1 at *
      generalize begB (m0.begTo X j) M1 (X j) = b2 at *
      generalize m0.begTo X j = b1 at *
      have hI := kst_info (X j)
      have V0 : (X j).cells[0]? = some (.int .i64 (X j).kind) := rfl
      have V1 : (X j).cells[1]? = some (.int .i64 (X j).a) := rfl
      have V2 : (X j).cells[2]? = some (.int .i64 (X j).b) := rfl
      have V3 : (X j).cells[3]? = some (.int .i64 (X j).c) := rfl
      have HO1 : ((X j).cells.toArray).all (·.oneCell') = true := by simp [KSt.cells, Cfg.cells, Value.oneCell']
      have hl12 : (X j).cells.length = 12 := rfl
      generalize (X j).cells = VC at *
      generalize (X j).kind = xk at *
      generalize (X j).a = xa at *
      generalize (X j).b = xb at *
      generalize (X j).c = xc at *
      generalize (X j).ki = ki at *
      generalize (X j).cn.toNat = cn at *
      generalize (X j).id = idn at *
      have r1 : wr.rangeAt bb (off + j * 12) VC := fun i v hv => hcell _ _ D1.fr i v hv
      obtain ⟨tho, blo, rgo, hlto⟩ := put_any wr 51 [.int .i64 0, .int .i64 0, .int .i64 0, .int .i64 0, .string ⟨#[]⟩, .int .i64 0, .bool false, .int .i64 0, .int .i64 0, .int .i64 0, .int .i64 0, .int .i64 0] VC hl12
      have D2 := D1.below blo
      have hgo : gb < wr.heap.size := D1.g.lt
      have c0 : ((wr.alloc (.cells #[.int .i64 0, .int .i64 0, .int .i64 0, .int .i64 0, .string ⟨#[]⟩, .int .i64 0, .bool false, .int .i64 0, .int .i64 0, .int .i64 0, .int .i64 0, .int .i64 0] 51)).setCells wr.heap.size 0 VC).cell? ⟨wr.heap.size, 0, none⟩ = some (.int .i64 xk) := rgo 0 _ V0
      have c1 : ((wr.alloc (.cells #[.int .i64 0, .int .i64 0, .int .i64 0, .int .i64 0, .string ⟨#[]⟩, .int .i64 0, .bool false, .int .i64 0, .int .i64 0, .int .i64 0, .int .i64 0, .int .i64 0] 51)).setCells wr.heap.size 0 VC).cell? ⟨wr.heap.size, 1, none⟩ = some (.int .i64 xa) := rgo 1 _ V1
      have otag : o1 wr.heap.size = (0, 0) := by
        obtain ⟨_, _, hm⟩ := D1.sole
        exact hm.clean _ (Nat.le_refl _)
      clear D1 blo
      go_wp2_with (first | (refine wpList_load_mid rfl 51 _ rfl bb (off + j * 12) rfl VC _ r1 Try.underlying51 rfl hI ?_) | (refine wpList_store_mid rfl 51 _ _ rfl wr.heap.size 0 VC.toArray rfl rfl tho (by simpa using hI) HO1 ?_))
      clear r1 tho
      generalize (wr.alloc (.cells #[.int .i64 0, .int .i64 0, .int .i64 0, .int .i64 0, .string ⟨#[]⟩, .int .i64 0, .bool false, .int .i64 0, .int .i64 0, .int .i64 0, .int .i64 0, .int .i64 0] 51)).setCells wr.heap.size 0 VC = wo at *
      generalize wr.heap.size = ob at *
      refine (kA.out _).mono ?_
      rintro e w4 ⟨rfl, rfl⟩
      go_wp2_with fail
      refine (kK.out _).mono ?_
      rintro e w4 ⟨rfl, rfl⟩
      go_wp2_with fail
      refine (drained_open D2 cn hc4).mono ?_
      rintro e w4 ⟨rfl, rfl⟩
      clear c0 c1
      go_wp2_with (refine wpList_load_mid rfl 51 _ rfl ob 0 rfl VC _ rgo Try.underlying51 rfl hI ?_)
      refine (kD.out _ _ D2).mono ?_
      rintro e w7 ⟨rfl, o7, D7, fx7⟩
      have rg7 : w7.rangeAt ob 0 VC := fun i v hv => by rw [World.cell?_of_block (fx7.block ob hlto (by rw [otag]))]; exact rgo i v hv
      have c2 : w7.cell? ⟨ob, 2, none⟩ = some (.int .i64 xb) := rg7 2 _ V2
      have c3 : w7.cell? ⟨ob, 3, none⟩ = some (.int .i64 xc) := rg7 3 _ V3
      clear rgo kD D2 kA kK fx7 rg7 hI HO1
      go_wp2_with fail
      refine (drained_open D7 cn hc4).mono ?_
      rintro e w8 ⟨rfl, rfl⟩
      generalize (M1.con cn).op = was at *
      generalize (M2.con cn).op = now at *
      generalize pickI xb 4 = pb at *
      generalize pickI xc 6 = pc at *
      rcases hcs with ⟨rfl, rfl, eb⟩ | ⟨rfl, rfl, rfl, rfl, eb⟩ | ⟨e1, e2, eb⟩ | ⟨rfl, rfl, eb⟩ | ⟨rfl, rfl, eb⟩ | ⟨rfl, rfl, rfl, eb⟩ | ⟨rfl, rfl, rfl, e1, eb⟩
      · have D9 : DInv w gb fb o7 (w8.setCells gb (cn * 7) zero7) M2 b2 := by rw [eb]; exact D7.sets (cn * 7) zero7 (begC_anew b1 cn hc4)
        have z0 := D7.g.cell (begC_get b1 cn 0 hc4 (by omega))
        have z1 := D7.g.cell (begC_get b1 cn 1 hc4 (by omega))
        have z2 := D7.g.cell (begC_get b1 cn 2 hc4 (by omega))
        have z3 := D7.g.cell (begC_get b1 cn 3 hc4 (by omega))
        have z4 := D7.g.cell (begC_get b1 cn 4 hc4 (by omega))
        have z5 := D7.g.cell (begC_get b1 cn 5 hc4 (by omega))
        have z6 := D7.g.cell (begC_get b1 cn 6 hc4 (by omega))
        rw [Nat.add_zero] at z0
        have zf := D7.g.frozen
        have hcI : (cn : Int) < 4 := by omega
        clear eb hbd
        go_wp2
        exact ⟨⟨j + 1, o7, by omega, by go_num, by rw [HD.out, HG.out]; exact D9⟩, by simp [intOf]; omega⟩
      · obtain ⟨pn, rfl⟩ : ∃ n : Nat, pc = n := ⟨pc.toNat, by omega⟩
        have hid2 : idn = ((pn + 1 : Nat) : Int) := by omega
        have D7d := D7.below (Below.refl _ _).drew
        have D9 : DInv w gb fb o7 (w8.drew.setCells gb (cn * 7 + (pn + 1)) [.int .i64 (b1 cn ((pn + 1 : Nat) : Int) + 1)]) M2 b2 := by rw [eb, hid2]; exact D7d.sets _ [_] (begC_bump b1 cn (pn + 1) hc4 (by omega))
        have zc := D7d.g.cell (begC_get b1 cn (pn + 1) hc4 (by omega))
        have zf := D7d.g.frozen
        have c3d : w8.drew.cell? ⟨ob, 3, none⟩ = some (.int .i64 xc) := c3
        have hv := hbd cn ((pn + 1 : Nat) : Int)
        have hcI : (cn : Int) < 4 := by omega
        have hpI : 0 ≤ (pn : Int) + 1 ∧ (pn : Int) + 1 < 7 := by omega
        have hw1 : IntKind.i64.wrap (1 + (pn : Int)) = ((pn + 1 : Nat) : Int) := by rw [wrap_ok (by omega) (by omega)]; omega
        clear eb hbd hid hid2 D7d
        generalize b1 cn ((pn + 1 : Nat) : Int) = bv at *
        have hw2 : IntKind.i64.wrap (bv + 1) = bv + 1 := wrap_ok (by omega) (by omega)
        go_wp2_with fail
        refine (kB.out _).mono ?_
        rintro e w9 ⟨rfl, rfl⟩
        go_wp2_with fail
        refine wp_region_noPanic ?_
        refine wp_region_held_drew (S := fun w' => w'.cell? ⟨ob, 3, none⟩ = some (.int .i64 xc)) (by kernel_rfl) c3 (fun hHeld => ?_)
        refine take_at (i := 0) (v := ?_) rfl (by kernel_rfl) (by kernel_rfl) (by kernel_rfl) (fun _ _ _ h => h) (by rfl) ?_ (by assumption) ?_
        rotate_left
        · (intro wx hSw; go_simp; with_reducible rfl)
        simp only [Act.put, List.setIfInBounds_toArray, List.set_cons_zero, List.set_cons_succ]
        refine take_at (i := 1) (v := ?_) rfl (by kernel_rfl) (by kernel_rfl) (by kernel_rfl) (fun _ _ _ h => h) (by rfl) ?_ (by assumption) ?_
        rotate_left
        · (intro wx hSw; go_simp; with_reducible rfl)
        simp only [Act.put, List.setIfInBounds_toArray, List.set_cons_zero, List.set_cons_succ]
        refine take_at (i := 2) (v := ?_) rfl (by kernel_rfl) (by kernel_rfl) (by kernel_rfl) (fun _ _ _ h => h) (by rfl) ?_ (by assumption) ?_
        rotate_left
        · (intro wx hSw; go_simp; with_reducible rfl)
        simp only [Act.put, List.setIfInBounds_toArray, List.set_cons_zero, List.set_cons_succ]
        refine take_at (i := 5) (v := ?_) rfl (by kernel_rfl) (by kernel_rfl) (by kernel_rfl) (fun _ _ _ h => h) (by rfl) ?_ (by assumption) ?_
        rotate_left
        · (intro wx hSw; go_simp; with_reducible rfl)
        simp only [Act.put, List.setIfInBounds_toArray, List.set_cons_zero, List.set_cons_succ]
        refine take_at (i := 9) (v := ?_) rfl (by kernel_rfl) (by kernel_rfl) (by kernel_rfl) (fun _ _ _ h => h) (by rfl) ?_ (by assumption) ?_
        rotate_left
        · (intro wx hSw; go_simp; with_reducible rfl)
        simp only [Act.put, List.setIfInBounds_toArray, List.set_cons_zero, List.set_cons_succ]
        refine only_at (i := 3) rfl (by kernel_rfl) (by rfl) (fun K hK => ?_)
        go_simp
        refine (kC.out _).mono ?_
        rintro e w10 ⟨rfl, rfl⟩
        refine hK.out _ _ c3d ?_
        clear hK K
        refine take_at (i := 4) (v := ?_) rfl (by kernel_rfl) (by kernel_rfl) (by kernel_rfl) (fun _ _ _ h => h) (by rfl) ?_ (by assumption) ?_
        rotate_left
        · (intro wx hSw; go_simp; with_reducible rfl)
        simp only [Act.put, List.setIfInBounds_toArray, List.set_cons_zero, List.set_cons_succ]
        refine take_at (i := 6) (v := ?_) rfl (by kernel_rfl) (by kernel_rfl) (by kernel_rfl) (fun _ _ _ h => h) (by rfl) ?_ (by assumption) ?_
        rotate_left
        · (intro wx hSw; go_simp; with_reducible rfl)
        simp only [Act.put, List.setIfInBounds_toArray, List.set_cons_zero, List.set_cons_succ]
        refine only_at (i := 7) rfl (by kernel_rfl) (by rfl) (fun K hK => ?_)
        go_simp
        refine hK.out _ _ c3d ?_
        clear hK K
        refine take_at (i := 8) (v := ?_) rfl (by kernel_rfl) (by kernel_rfl) (by kernel_rfl) (fun _ _ _ h => h) (by rfl) ?_ (by assumption) ?_
        rotate_left
        · (intro wx hSw; go_simp; with_reducible rfl)
        simp only [Act.put, List.setIfInBounds_toArray, List.set_cons_zero, List.set_cons_succ]
        refine take_at (i := 10) (v := ?_) rfl (by kernel_rfl) (by kernel_rfl) (by kernel_rfl) (fun _ _ _ h => h) (by rfl) ?_ (by assumption) ?_
        rotate_left
        · (intro wx hSw; go_simp; with_reducible rfl)
        simp only [Act.put, List.setIfInBounds_toArray, List.set_cons_zero, List.set_cons_succ]
        refine only_at (i := 11) rfl (by kernel_rfl) (by rfl) (fun K hK => ?_)
        go_simp
        have c3e : (w9.drew.setCell ⟨gb, cn * 7 + (pn + 1), none⟩ (.int .i64 (bv + 1))).cell? ⟨ob, 3, none⟩ = some (.int .i64 xc) := by
          rw [World.cell?_of_block (Below.heap_setCell _ _ _ ob (by show ob ≠ gb; omega))]
          exact c3d
        refine hK.out _ _ c3e ?_
        clear hK K
        refine wpAnyH_done (by kernel_rfl) ?_ _
        refine NoPanic.normal ?_
        clear hHeld
        go_wp2
        exact ⟨⟨j + 1, o7, by omega, by go_num, by rw [HD.out, HG.out]; exact D9⟩, by simp [intOf]; omega⟩
      · have D9 : DInv w gb fb o7 w8 M2 b2 := by rw [eb]; exact D7
        go_wp2
        exact ⟨⟨j + 1, o7, by omega, by go_num, by rw [HD.out, HG.out]; exact D9⟩, by simp [intOf]; omega⟩
      · have D9 : DInv w gb fb o7 w8 M2 b2 := by rw [eb]; exact D7
        go_wp2
        exact ⟨⟨j + 1, o7, by omega, by go_num, by rw [HD.out, HG.out]; exact D9⟩, by simp [intOf]; omega⟩
      · have D9 : DInv w gb fb o7 w8 M2 b2 := by rw [eb]; exact D7
        go_wp2
        exact ⟨⟨j + 1, o7, by omega, by go_num, by rw [HD.out, HG.out]; exact D9⟩, by simp [intOf]; omega⟩
      · have D9 : DInv w gb fb o7 w8 M2 b2 := by rw [eb]; exact D7
        go_wp2
        exact ⟨⟨j + 1, o7, by omega, by go_num, by rw [HD.out, HG.out]; exact D9⟩, by simp [intOf]; omega⟩
      · have D9 : DInv w gb fb o7 w8 M2 b2 := by rw [eb]; exact D7
        go_wp2_with fail
        refine (kB.out _).mono ?_
        rintro e w9 ⟨rfl, rfl⟩
        go_wp2
        exact ⟨⟨j + 1, o7, by omega, by go_num, by rw [HD.out, HG.out]; exact D9⟩, by simp [intOf]; omega⟩
    · have hjn : j = nX := by omega
      have hjI : ¬ ((j : Int) < nX) := by omega
      subst hjn
      have hF1 : (m0.doTo X j).Fit (0 + ktot X j) := hF0.doTo X j
      have hT1 := hT0.doTo X j
      have hbd := begTo_bd m0 X j
      have hB : 0 + ktot X j ≤ 40000000 := by omega
      have hjB : j ≤ 40000000 := by omega
      clear hF0 hT0 hX hX64 hsum hgX
      generalize m0.doTo X j = M1 at *
      generalize m0.begTo X j = b1 at *
      generalize 0 + ktot X j = B at *
      go_wp2
      go_loopw [14] (fun i w' => ∃ (k : Nat) (o' : Nat → Tag) (M : PM), k ≤ 4 ∧ i = .int .i64 k ∧ DInv w gb fb o' w' M b1 ∧ M.Tidy b1 ∧ M.Fit (B + k * 6 * 400) ∧ ∀ c i, c < k → 1 ≤ i → i ≤ 6 → (M.con c).op = true → ¬ M.Coll (c : Int) i) (fun i _ => 4 - (intOf i).toNat)
      case atStart => exact ⟨0, o1, M1, by omega, rfl, D1, hT1, hF1.mono (by omega), fun c i h => by omega⟩
      case round =>
        clear D1 hT1 hF1
        obtain ⟨k, o2, M, hk, rfl, D2, T2, F2, C2⟩ := hrel
        by_cases hlt4 : k < 4
        · have hkI : (k : Int) < 4 := by omega
          go_wp2_with fail
          refine (drained_open D2 k hlt4).mono ?_
          rintro e w4 ⟨rfl, rfl⟩
          have HK : Hid (∀ (o' : Nat → Tag) (M' : PM) w', DInv w gb fb o' w' M' b1 → M'.Tidy b1 → M'.Fit (B + (k * 6 + 6) * 400) → (∀ c i, c < k → 1 ≤ i → i ≤ 6 → (M'.con c).op = true → ¬ M'.Coll (c : Int) i) → (∀ i, 1 ≤ i → i ≤ 6 → (M'.con k).op = true → ¬ M'.Coll (k : Int) i) → ∃ (k2 : Nat) (o2 : Nat → Tag) (M2 : PM), k2 ≤ 4 ∧ Value.int .i64 ((k : Int) + 1) = .int .i64 k2 ∧ DInv w gb fb o2 w' M2 b1 ∧ M2.Tidy b1 ∧ M2.Fit (B + k2 * 6 * 400) ∧ ∀ c i, c < k2 → 1 ≤ i → i ≤ 6 → (M2.con c).op = true → ¬ M2.Coll (c : Int) i) := fun o' M' w' h1 h2 h3 h4 h5 => by
            refine ⟨k + 1, o', M', by omega, by go_num, h1, h2, h3.mono (by omega), fun c i hc hi1 hi6 ho => ?_⟩
            by_cases e : c = k
            · subst e; exact h5 i hi1 hi6 ho
            · exact h4 c i (by omega) hi1 hi6 ho
          generalize hop : (M.con k).op = OP at *
          go_wp2
          go_loopw [16] (fun i w' => ∃ (n : Nat) (o' : Nat → Tag) (M' : PM), 1 ≤ n ∧ n ≤ 7 ∧ i = .int .i64 n ∧ DInv w gb fb o' w' M' b1 ∧ M'.Tidy b1 ∧ M'.Fit (B + (k * 6 + (n - 1)) * 400) ∧ (M'.con k).op = OP ∧ (∀ c i, c < k → 1 ≤ i → i ≤ 6 → (M'.con c).op = true → ¬ M'.Coll (c : Int) i) ∧ (∀ i : Int, 1 ≤ i → i < n → ¬ M'.Coll (k : Int) i)) (fun i _ => 7 - (intOf i).toNat)
          case atStart => exact ⟨1, o2, M, by omega, by omega, rfl, D2, T2, F2.mono (by omega), hop, C2, fun i h1 h2 => by omega⟩
          case round =>
            clear D2 T2 F2 C2 hop
            obtain ⟨n, o3, N, hn1, hn7, rfl, D3, T3, F3, hop, C3, E3⟩ := hrel
            cases OP
            · by_cases hn : n < 7
              · have hnI : (n : Int) < 7 := by omega
                go_wp2
                exact ⟨HK.out o3 N _ D3 T3 (F3.mono (by omega)) C3 (fun i _ _ ho => by rw [hop] at ho; cases ho), by simp [intOf]; omega⟩
              · have hnI : ¬ ((n : Int) < 7) := by omega
                go_wp2
                exact ⟨HK.out o3 N _ D3 T3 (F3.mono (by omega)) C3 (fun i _ _ ho => by rw [hop] at ho; cases ho), by simp [intOf]; omega⟩
            · by_cases hn : n < 7
              · have hnI : (n : Int) < 7 := by omega
                obtain ⟨L, hs1, hs2, hT, hL⟩ := T3.book.told hlt4
                have hsz := F3.sent hlt4
                rw [hs2] at hsz
                have kT : Hid (∀ w', Calls Try.prog 41 #[.string (strOfNums (sentOf L)), .agg (rowB (b1 k)).toArray] w' fun r w'' => r = .returned (.tuple #[.agg (rowB (endsF L)).toArray, .bool true]) ∧ Below w'.heap.size w' w'') := fun w' => tell_any (b1 k) L hT (by omega) w'
                have kN := drained_sent D3 k
                rw [hs1] at kN
                have hLn : Hid (b1 k n = endsL L n + (if ((k : Int), (n : Int)) ∈ N.req.map keyR then 1 else 0)) := hL hop n
                have hends : Hid (endsF L n = endsL L n) := rfl
                have hrg : wr.rangeAt gb (k * 7) (rowB (b1 k)) := fun i v hv => D3.g.cell (begC_row b1 k hlt4 i v hv)
                have hi1 := row_info (b1 k)
                have hi2 := row_info (endsF L)
                have ho2 := row_one (endsF L)
                have hg2 := rowB_get (endsF L) n (by omega)
                have hl2 := rowB_len (endsF L)
                have hbn := begC_get b1 k n hlt4 (by omega)
                clear hs1 hs2 hT hL hsz
                generalize strOfNums (sentOf L) = SS at *
                generalize rowB (b1 k) = RB at *
                generalize rowB (endsF L) = RE at *
                go_wp2_with fail
                refine kN.mono ?_
                rintro e w5 ⟨rfl, rfl⟩
                go_wp2_with (refine wpList_load_mid rfl 79 _ rfl gb (k * 7) rfl RB _ hrg Try.underlying79 rfl hi1 ?_)
                refine (kT.out _).mono ?_
                rintro e w6 ⟨rfl, hb6⟩
                have D6 := D3.below hb6
                obtain ⟨the, ble, rge, hlte⟩ := put_any w6 79 [.int .i64 0, .int .i64 0, .int .i64 0, .int .i64 0, .int .i64 0, .int .i64 0, .int .i64 0] RE hl2
                have D7 := D6.below ble
                clear hrg kN kT D3 hb6
                have y0 : ((w6.alloc (.cells #[.int .i64 0, .int .i64 0, .int .i64 0, .int .i64 0, .int .i64 0, .int .i64 0, .int .i64 0] 79)).setCells w6.heap.size 0 RE).cell? ⟨w6.heap.size, n, none⟩ = some (.int .i64 (endsF L n)) := by
                  have := rge n _ hg2
                  rwa [Nat.zero_add] at this
                have y1 := D7.g.cell hbn
                clear hg2 rge ble D6
                generalize endsF L n = EN at *
                go_wp2_with (refine wpList_store_mid rfl 79 _ _ rfl w6.heap.size 0 RE.toArray rfl rfl the (by simpa using hi2) ho2 ?_)
                generalize (w6.alloc (.cells #[.int .i64 0, .int .i64 0, .int .i64 0, .int .i64 0, .int .i64 0, .int .i64 0, .int .i64 0] 79)).setCells w6.heap.size 0 RE = w7 at *
                have D8 : ∀ nq, DInv w gb fb o3 (w7.drewN nq) N b1 := fun nq => D7.below (below_dN (Below.refl _ _))
                clear the D7
                by_cases hlt : EN < b1 k n
                · have hdec : decide (EN < b1 k n) = true := decide_eq_true hlt
                  obtain ⟨T9, hop9, hcoll⟩ := T3.ends hlt4 hop (i := n) ⟨by omega, by omega⟩
                  have hez : (enc 5 (n : Int) ⟨#[]⟩ []).size ≤ 100 := by rw [enc_size]; decide
                  have F9 := F3.afterFeed k (enc 5 n ⟨#[]⟩ [])
                  have kZ : Hid (∀ nq, Calls Try.prog 42 #[.pointer (some ⟨fb, 0, none⟩), .int .i64 k, .int .i64 n] (w7.drewN nq) fun r w'' => r = .returned (.tuple #[]) ∧ ∃ o', DInv w gb fb o' w'' (N.afterFeed k (enc 5 n ⟨#[]⟩ [])) b1) := fun nq => drained_completes (D8 nq) F3 (by omega) k n ⟨by omega, by omega⟩
                  generalize N.afterFeed k (enc 5 n ⟨#[]⟩ []) = N9 at *
                  generalize (enc 5 (n : Int) ⟨#[]⟩ []).size = ez at *
                  generalize b1 k n = BN at *
                  clear hlt
                  go_quiet (fail)
                  go_wp2_with fail
                  refine (kZ.out _).mono ?_
                  rintro e w8 ⟨rfl, o8, D9⟩
                  go_wp2
                  refine ⟨⟨n + 1, o8, N9, by omega, by omega, by go_num, D9, T9, F9.mono (by omega), by rw [hop9]; exact hop, fun c i hc h1 h6 ho hcl => ?_, fun i h1 h2 hcl => ?_⟩, by simp [intOf]; omega⟩
                  · rw [hop9] at ho
                    exact C3 c i hc h1 h6 ho (hcoll _ _ hcl).1
                  · obtain ⟨q1, q2⟩ := hcoll _ _ hcl
                    by_cases e : i = n
                    · subst e; exact q2 rfl
                    · exact E3 i h1 (by omega) q1
                · have hdec : decide (EN < b1 k n) = false := decide_eq_false hlt
                  have hno : ¬ N.Coll (k : Int) n := by
                    intro hcl
                    obtain ⟨r, hr, e1, -⟩ := hcl
                    have hmem : ((k : Int), (n : Int)) ∈ N.req.map keyR := List.mem_map.2 ⟨r, hr, e1⟩
                    have hq := hLn.out
                    rw [if_pos hmem] at hq
                    have := hends.out
                    omega
                  clear hLn
                  generalize b1 k n = BN at *
                  go_quiet (fail)
                  go_wp2
                  refine ⟨⟨n + 1, o3, N, by omega, by omega, by go_num, D8 _, T3, F3.mono (by omega), hop, C3, fun i h1 h2 hcl => ?_⟩, by simp [intOf]; omega⟩
                  by_cases e : i = n
                  · subst e; exact hno hcl
                  · exact E3 i h1 (by omega) hcl
              · have hnI : ¬ ((n : Int) < 7) := by omega
                go_wp2
                exact ⟨HK.out o3 N _ D3 T3 (F3.mono (by omega)) C3 (fun i h1 h6 _ => E3 i h1 (by omega)), by simp [intOf]; omega⟩
        · have hk4 : k = 4 := by omega
          subst hk4
          have hR := ripe_of T2 (fun c i hc h1 h6 ho => C2 c i hc h1 h6 ho)
          obtain ⟨ND, hND, hNB, hNr, hNw, hNs⟩ := drained_end T2 hR
          have hFN := F2.rounds
          clear C2 T2 F2 hR
          rw [show ((4 : Nat) : Int) = 4 from rfl]
          go_wp2
          go_loopw [20] (fun i w' => ∃ (n : Nat) (o' : Nat → Tag), n ≤ 150 ∧ i = .int .i64 n ∧ DInv w gb fb o' w' (M.rounds n) b1) (fun i _ => 150 - (intOf i).toNat)
          case atStart => exact ⟨0, o2, by omega, rfl, D2⟩
          case round =>
            clear D2
            obtain ⟨n, o3, hn, rfl, D3⟩ := hrel
            by_cases hlt : n < 150
            · have hnI : (n : Int) < 150 := by omega
              have kR := drained_round D3 (hFN n) (by omega)
              have HR : Hid (M.rounds (n + 1) = (M.rounds n).round) := rfl
              clear hFN hND D3
              generalize (M.rounds n).round = MR at *
              go_wp2_with fail
              refine kR.mono ?_
              rintro e w4 ⟨rfl, o4, D4⟩
              go_wp2
              exact ⟨⟨n + 1, o4, by omega, by go_num, by rw [HR.out]; exact D4⟩, by simp [intOf]; omega⟩
            · have hn150 : n = 150 := by omega
              subst hn150
              have F3 := hFN 150
              rw [← hND] at D3 F3
              clear hFN hND hlt hn
              rw [show ((150 : Nat) : Int) = 150 from rfl]
              have kL := drained_look D3 F3 (by omega)
              have hw0 : ND.waits.length = 0 := by rw [hNw]; rfl
              rw [hw0] at kL
              go_wp2_with fail
              refine kL.mono ?_
              rintro e wL ⟨aa, ca, rfl, ba⟩
              have hIa := lookC_info ND (.slice aa 0 ca) ND.time true
              have hOa := lookC_one ND aa 0 ca ND.time true
              have hG : ∀ s, s < 6 → (lookC ND 4 6 (.slice aa 0 ca) ND.time true)[8 + s * 6 + 4]? = some (.int .i64 (-1)) := fun s hs => by rw [(lookC_get ND s hs (.slice aa 0 ca) ND.time true).2.2.2.2.1, hNs s hs]
              have hO := fun k hk => lookC_op ND k hk (.slice aa 0 ca) ND.time true
              have hSe : ∀ k, k < 4 → (lookC ND 4 6 (.slice aa 0 ca) ND.time true)[4 + k]? = some (.string (strOfNums (ND.con k).sent)) := fun k hk => by
                rcases k with _ | _ | _ | _ | k <;> first | rfl | omega
              have hB50 : (lookC ND 4 6 (.slice aa 0 ca) ND.time true)[50]? = some (.slice aa 0 ca) := rfl
              obtain ⟨tha, bla, rga, hlta⟩ := put_look wL (lookC ND 4 6 (.slice aa 0 ca) ND.time true) rfl
              have D4 := (D3.below ba).below bla
              generalize lookC ND 4 6 (.slice aa 0 ca) ND.time true = LA at *
              clear kL ba bla D3
              go_wp2_with (refine wpList_store_mid rfl 63 _ _ rfl wL.heap.size 0 LA.toArray rfl rfl tha (by simpa using hIa) hOa ?_)
              clear tha
              obtain ⟨WL, HWL⟩ : ∃ W, W = (wL.alloc (.cells zeroL.toArray 63)).setCells wL.heap.size 0 LA := ⟨_, rfl⟩
              rw [← HWL] at rga hlta D4
              have HW : Hid (WL = (wL.alloc (.cells zeroL.toArray 63)).setCells wL.heap.size 0 LA) := HWL
              clear HWL
              go_loopw [22] (fun i w' => ∃ k : Nat, k ≤ 4 ∧ i = .int .i64 k ∧ Below WL.heap.size WL w') (fun i _ => 4 - (intOf i).toNat)
              case atStart => exact ⟨0, by omega, rfl, by rw [HW.out]; exact Below.refl _ _⟩
              case round =>
                clear HW
                obtain ⟨k, hk, rfl, bk⟩ := hrel
                have rgk := range_below rga hlta bk
                have D5 := D4.below bk
                by_cases hlt : k < 4
                · have hkI : (k : Int) < 4 := by omega
                  obtain ⟨L, hs1, hs2, hT, hL⟩ := hNB.told hlt
                  have hsz := F3.sent hlt
                  rw [hs2] at hsz
                  have kT : Hid (∀ w', Calls Try.prog 41 #[.string (strOfNums (sentOf L)), .agg (rowB (b1 k)).toArray] w' fun r w'' => r = .returned (.tuple #[.agg (rowB (endsF L)).toArray, .bool true]) ∧ Below w'.heap.size w' w'') := fun w' => tell_any (b1 k) L hT (by omega) w'
                  have hrg : wr.rangeAt gb (k * 7) (rowB (b1 k)) := fun i v hv => D5.g.cell (begC_row b1 k hlt i v hv)
                  have hi1 := row_info (b1 k)
                  have hi2 := row_info (endsF L)
                  have ho2 := row_one (endsF L)
                  have hl2 := rowB_len (endsF L)
                  have y4 := rgk (4 + k) _ (hSe k hlt)
                  rw [Nat.zero_add, hs2] at y4
                  have heq : (ND.con k).op = true → rowB (endsF L) = rowB (b1 k) := fun ho => by
                    have : endsF L = b1 k := by
                      funext i
                      have := hL ho i
                      rw [hNr] at this
                      simp at this
                      exact this.symm
                    rw [this]
                  have hEq : ∀ w', (binOp .neq 79 (.agg #[.int .i64 (b1 k 0), .int .i64 (b1 k 1), .int .i64 (b1 k 2), .int .i64 (b1 k 3), .int .i64 (b1 k 4), .int .i64 (b1 k 5), .int .i64 (b1 k 6)]) (.agg #[.int .i64 (b1 k 0), .int .i64 (b1 k 1), .int .i64 (b1 k 2), .int .i64 (b1 k 3), .int .i64 (b1 k 4), .int .i64 (b1 k 5), .int .i64 (b1 k 6)])).run Try.prog w' = .ok (.bool false) w' := fun w' => eq_row (b1 k) w'
                  have hRB : ∀ w', Below WL.heap.size WL w' → w'.rangeAt gb (k * 7) (rowB (b1 k)) := fun w' hb' i v hv => (D4.below hb').g.cell (begC_row b1 k hlt i v hv)
                  have hGB : ∀ w', Below WL.heap.size WL w' → w'.cell? ⟨gb, k * 7, none⟩ = some (.int .i64 (b1 k 0)) ∧ w'.cell? ⟨gb, k * 7 + 1, none⟩ = some (.int .i64 (b1 k 1)) ∧ w'.cell? ⟨gb, k * 7 + 2, none⟩ = some (.int .i64 (b1 k 2)) ∧ w'.cell? ⟨gb, k * 7 + 3, none⟩ = some (.int .i64 (b1 k 3)) ∧ w'.cell? ⟨gb, k * 7 + 4, none⟩ = some (.int .i64 (b1 k 4)) ∧ w'.cell? ⟨gb, k * 7 + 5, none⟩ = some (.int .i64 (b1 k 5)) ∧ w'.cell? ⟨gb, k * 7 + 6, none⟩ = some (.int .i64 (b1 k 6)) := fun w' hb' => ⟨hRB w' hb' 0 _ rfl, hRB w' hb' 1 _ rfl, hRB w' hb' 2 _ rfl, hRB w' hb' 3 _ rfl, hRB w' hb' 4 _ rfl, hRB w' hb' 5 _ rfl, hRB w' hb' 6 _ rfl⟩
                  have hGE : (ND.con k).op = true → ∀ (w' : World) (eb : Nat), w'.rangeAt eb 0 (rowB (endsF L)) → w'.cell? ⟨eb, 0, none⟩ = some (.int .i64 (b1 k 0)) ∧ w'.cell? ⟨eb, 1, none⟩ = some (.int .i64 (b1 k 1)) ∧ w'.cell? ⟨eb, 2, none⟩ = some (.int .i64 (b1 k 2)) ∧ w'.cell? ⟨eb, 3, none⟩ = some (.int .i64 (b1 k 3)) ∧ w'.cell? ⟨eb, 4, none⟩ = some (.int .i64 (b1 k 4)) ∧ w'.cell? ⟨eb, 5, none⟩ = some (.int .i64 (b1 k 5)) ∧ w'.cell? ⟨eb, 6, none⟩ = some (.int .i64 (b1 k 6)) := fun ho w' eb h => by
                    rw [heq ho] at h
                    exact ⟨h 0 _ rfl, h 1 _ rfl, h 2 _ rfl, h 3 _ rfl, h 4 _ rfl, h 5 _ rfl, h 6 _ rfl⟩
                  have hY : ∀ w', Below WL.heap.size WL w' → w'.cell? ⟨wL.heap.size, 4 + k, none⟩ = some (.string (strOfNums (sentOf L))) := fun w' hb' => by
                    have := range_below rga hlta hb' (4 + k) _ (hSe k hlt)
                    rwa [Nat.zero_add, hs2] at this
                  have hOk : ∀ w', Below WL.heap.size WL w' → w'.cell? ⟨wL.heap.size, k, none⟩ = some (.bool (ND.con k).op) := fun w' hb' => by
                    have := range_below rga hlta hb' k _ (hO k hlt)
                    rwa [Nat.zero_add] at this
                  have hbdr : Below wr.heap.size wr wr.drew := (Below.refl _ _).drew
                  clear hs1 hs2 hT hL hsz hSe hG hO heq
                  generalize strOfNums (sentOf L) = SS at *
                  generalize rowB (b1 k) = RB at *
                  generalize rowB (endsF L) = RE at *
                  go_wp2_with fail
                  refine wp_region_noPanic ?_
                  have hSr : wr.drew.cell? ⟨wL.heap.size, 4 + k, none⟩ = some (.string SS) ∧ wr.drew.rangeAt gb (k * 7) RB := ⟨y4, hrg⟩
                  refine wp_region_held_drew (S := fun w' => w'.cell? ⟨wL.heap.size, 4 + k, none⟩ = some (.string SS) ∧ w'.rangeAt gb (k * 7) RB) (by kernel_rfl) hSr (fun hHeld => ?_)
                  refine take_at (i := 0) (v := ?_) rfl (by kernel_rfl) (by kernel_rfl) (by kernel_rfl) (fun _ _ _ h => h) (by rfl) ?_ (by assumption) ?_
                  rotate_left
                  · (intro wx hSw; obtain ⟨x0, -⟩ := hSw; go_simp; with_reducible rfl)
                  simp only [Act.put, List.setIfInBounds_toArray, List.set_cons_zero, List.set_cons_succ]
                  refine take_at (i := 1) (v := ?_) rfl (by kernel_rfl) (by kernel_rfl) (by kernel_rfl) (fun _ _ _ h => h) (by rfl) ?_ (by assumption) ?_
                  rotate_left
                  · (intro wx hSw; obtain ⟨x0, -⟩ := hSw; go_simp; with_reducible rfl)
                  simp only [Act.put, List.setIfInBounds_toArray, List.set_cons_zero, List.set_cons_succ]
                  refine take_at (i := 2) (v := ?_) rfl (by kernel_rfl) (by kernel_rfl) (by kernel_rfl) (fun _ _ _ h => h) (by rfl) ?_ (by assumption) ?_
                  rotate_left
                  · (intro wx hSw; obtain ⟨x0, -⟩ := hSw; go_simp; with_reducible rfl)
                  simp only [Act.put, List.setIfInBounds_toArray, List.set_cons_zero, List.set_cons_succ]
                  refine take_at (i := 3) (v := ?_) rfl (by kernel_rfl) (by kernel_rfl) (by kernel_rfl) (fun _ _ _ h => h) (by rfl) ?_ (by assumption) ?_
                  rotate_left
                  · (intro wx hSw; obtain ⟨x0, -⟩ := hSw; go_simp; with_reducible rfl)
                  simp only [Act.put, List.setIfInBounds_toArray, List.set_cons_zero, List.set_cons_succ]
                  refine take_at (i := 4) (v := ?_) rfl (by kernel_rfl) (by kernel_rfl) (by kernel_rfl) (fun _ _ _ h => h) (by rfl) ?_ (by assumption) ?_
                  rotate_left
                  · (intro wx hSw; obtain ⟨x0, -⟩ := hSw; go_simp; with_reducible rfl)
                  simp only [Act.put, List.setIfInBounds_toArray, List.set_cons_zero, List.set_cons_succ]
                  refine take_at (i := 5) (v := ?_) rfl (by kernel_rfl) (by kernel_rfl) (by kernel_rfl) (fun _ _ _ h => h) (by rfl) ?_ (by assumption) ?_
                  rotate_left
                  · (intro wx hSw; obtain ⟨x0, -⟩ := hSw; go_simp; with_reducible rfl)
                  simp only [Act.put, List.setIfInBounds_toArray, List.set_cons_zero, List.set_cons_succ]
                  refine wpAnyH_take (i := 6) (v := .agg RB.toArray) (at_of_drop rfl) (by kernel_rfl) (by kernel_rfl) (by kernel_rfl) (fun _ _ _ h => h) (yieldsIf_load_mid (by rfl) 79 _ rfl gb (k * 7) rfl RB _ (fun w' hSw => hSw.2) Try.underlying79 rfl hi1) (by assumption) ?_
                  simp only [Act.put, List.setIfInBounds_toArray, List.set_cons_zero, List.set_cons_succ]
                  refine two_at (i := 7) (j := 11) rfl rfl (by kernel_rfl) (by rfl) (by rfl) (fun K hK => ?_) (fun K hK => ?_)
                  · go_simp
                    refine (kT.out _).mono ?_
                    rintro e w6 ⟨rfl, hb6⟩
                    have hbw : Below wr.heap.size wr w6 := hbdr.trans hb6
                    have bk6 : Below WL.heap.size WL w6 := bk.trans (hbw.mono bk.size)
                    have hS6 : w6.cell? ⟨wL.heap.size, 4 + k, none⟩ = some (.string SS) ∧ w6.rangeAt gb (k * 7) RB := ⟨hY _ bk6, hRB _ bk6⟩
                    refine hK.out _ _ hS6 ?_
                    clear hK K
                    try simp only [Act.put, List.setIfInBounds_toArray, List.set_cons_zero, List.set_cons_succ]
                    refine take_at (i := 8) (v := ?_) rfl (by kernel_rfl) (by kernel_rfl) (by kernel_rfl) (fun _ _ _ h => h) (by rfl) ?_ (by assumption) ?_
                    rotate_left
                    · (intro wx hSw; obtain ⟨x0, -⟩ := hSw; go_simp; with_reducible rfl)
                    simp only [Act.put, List.setIfInBounds_toArray, List.set_cons_zero, List.set_cons_succ]
                    refine take_at (i := 9) (v := ?_) rfl (by kernel_rfl) (by kernel_rfl) (by kernel_rfl) (fun _ _ _ h => h) (by rfl) ?_ (by assumption) ?_
                    rotate_left
                    · (intro wx hSw; obtain ⟨x0, -⟩ := hSw; go_simp; with_reducible rfl)
                    simp only [Act.put, List.setIfInBounds_toArray, List.set_cons_zero, List.set_cons_succ]
                    refine take_at (i := 10) (v := ?_) rfl (by kernel_rfl) (by kernel_rfl) (by kernel_rfl) (fun _ _ _ h => h) (by rfl) ?_ (by assumption) ?_
                    rotate_left
                    · (intro wx hSw; obtain ⟨x0, -⟩ := hSw; go_simp; with_reducible rfl)
                    simp only [Act.put, List.setIfInBounds_toArray, List.set_cons_zero, List.set_cons_succ]
                    obtain ⟨the, ble, rge, hlte⟩ := put_any w6 79 [.int .i64 0, .int .i64 0, .int .i64 0, .int .i64 0, .int .i64 0, .int .i64 0, .int .i64 0] RE hl2
                    have b12 : Below WL.heap.size WL _ := bk6.trans (ble.mono bk6.size)
                    have bkA : Below WL.heap.size WL (w6.alloc (.cells #[.int .i64 0, .int .i64 0, .int .i64 0, .int .i64 0, .int .i64 0, .int .i64 0, .int .i64 0] 79)) := bk6.trans (((Below.refl _ _).alloc (Nat.le_refl _) _).mono bk6.size)
                    have hSA : (w6.alloc (.cells #[.int .i64 0, .int .i64 0, .int .i64 0, .int .i64 0, .int .i64 0, .int .i64 0, .int .i64 0] 79)).cell? ⟨wL.heap.size, 4 + k, none⟩ = some (.string SS) ∧ (w6.alloc (.cells #[.int .i64 0, .int .i64 0, .int .i64 0, .int .i64 0, .int .i64 0, .int .i64 0, .int .i64 0] 79)).rangeAt gb (k * 7) RB := ⟨hY _ bkA, hRB _ bkA⟩
                    refine only_at (i := 11) rfl (by kernel_rfl) (by rfl) (fun K hK => ?_)
                    go_simp
                    refine hK.out _ _ hSA ?_
                    clear hK K
                    try simp only [Act.put, List.setIfInBounds_toArray, List.set_cons_zero, List.set_cons_succ]
                    refine only_at (i := 12) rfl (by kernel_rfl) (by rfl) (fun K hK => ?_)
                    refine wp_store_mid 79 _ _ rfl w6.heap.size 0 RE.toArray rfl rfl the (by simpa using hi2) ho2 ?_
                    have hS12 : ((w6.alloc (.cells #[.int .i64 0, .int .i64 0, .int .i64 0, .int .i64 0, .int .i64 0, .int .i64 0, .int .i64 0] 79)).setCells w6.heap.size 0 RE).cell? ⟨wL.heap.size, 4 + k, none⟩ = some (.string SS) ∧ ((w6.alloc (.cells #[.int .i64 0, .int .i64 0, .int .i64 0, .int .i64 0, .int .i64 0, .int .i64 0, .int .i64 0] 79)).setCells w6.heap.size 0 RE).rangeAt gb (k * 7) RB := ⟨hY _ b12, hRB _ b12⟩
                    refine hK.out _ _ hS12 ?_
                    clear hK K
                    simp only [Act.put]
                    clear the hSA hS6 bkA hlte hb6 hbw ble hSr hHeld
                    have rgE := rge
                    clear rge
                    generalize (w6.alloc (.cells #[.int .i64 0, .int .i64 0, .int .i64 0, .int .i64 0, .int .i64 0, .int .i64 0, .int .i64 0] 79)).setCells w6.heap.size 0 RE = W12 at *
                    generalize w6.heap.size = eb at *
                    refine take_at (i := 13) (v := ?_) rfl (by kernel_rfl) (by kernel_rfl) (by kernel_rfl) (fun _ _ _ h => h) (by rfl) ?_ (by assumption) ?_
                    rotate_left
                    · (intro wx hSw; obtain ⟨x0, -⟩ := hSw; go_simp; with_reducible rfl)
                    simp only [Act.put, List.setIfInBounds_toArray, List.set_cons_zero, List.set_cons_succ]
                    refine wpAnyH_done (by kernel_rfl) ?_ _
                    refine NoPanic.normal ?_
                    clear hS12
                    have yO := hOk W12 b12
                    cases hop : (ND.con k).op
                    · rw [hop] at yO
                      clear hGE hGB hEq hOk hY hRB
                      go_wp2
                      go_quiet (fail)
                      go_wp2
                      exact ⟨⟨k + 1, by omega, by go_num, below_dN b12⟩, by simp [intOf]; omega⟩
                    · rw [hop] at yO
                      obtain ⟨g0, g1, g2, g3, g4, g5, g6⟩ := hGB W12 b12
                      obtain ⟨e0, e1, e2, e3, e4, e5, e6⟩ := hGE hop W12 eb rgE
                      clear hGE hGB hOk hY hRB rgE
                      generalize b1 k 0 = v0 at *
                      generalize b1 k 1 = v1 at *
                      generalize b1 k 2 = v2 at *
                      generalize b1 k 3 = v3 at *
                      generalize b1 k 4 = v4 at *
                      generalize b1 k 5 = v5 at *
                      generalize b1 k 6 = v6 at *
                      go_wp2
                      go_quiet (fail)
                      go_wp2
                      exact ⟨⟨k + 1, by omega, by go_num, below_dN b12⟩, by simp [intOf]; omega⟩
                  · have bkA : Below WL.heap.size WL (wr.drew.alloc (.cells #[.int .i64 0, .int .i64 0, .int .i64 0, .int .i64 0, .int .i64 0, .int .i64 0, .int .i64 0] 79)) := (bk.trans (hbdr.mono bk.size)).trans (((Below.refl _ _).alloc (Nat.le_refl _) _).mono (by have := bk.size; exact this))
                    have hSA : (wr.drew.alloc (.cells #[.int .i64 0, .int .i64 0, .int .i64 0, .int .i64 0, .int .i64 0, .int .i64 0, .int .i64 0] 79)).cell? ⟨wL.heap.size, 4 + k, none⟩ = some (.string SS) ∧ (wr.drew.alloc (.cells #[.int .i64 0, .int .i64 0, .int .i64 0, .int .i64 0, .int .i64 0, .int .i64 0, .int .i64 0] 79)).rangeAt gb (k * 7) RB := ⟨hY _ bkA, hRB _ bkA⟩
                    have xe := Blk.made wr.drew 79 [.int .i64 0, .int .i64 0, .int .i64 0, .int .i64 0, .int .i64 0, .int .i64 0, .int .i64 0]
                    go_simp
                    refine hK.out _ _ hSA ?_
                    clear hK K
                    try simp only [Act.put, List.setIfInBounds_toArray, List.set_cons_zero, List.set_cons_succ]
                    refine only_at (i := 7) rfl (by kernel_rfl) (by rfl) (fun K hK => ?_)
                    go_simp
                    refine (kT.out _).mono ?_
                    rintro e w6 ⟨rfl, hb6⟩
                    have bk6 : Below WL.heap.size WL w6 := bkA.trans (hb6.mono bkA.size)
                    have hS6 : w6.cell? ⟨wL.heap.size, 4 + k, none⟩ = some (.string SS) ∧ w6.rangeAt gb (k * 7) RB := ⟨hY _ bk6, hRB _ bk6⟩
                    have xe6 := xe.below hb6
                    obtain ⟨the, rgE⟩ := put_more xe6 hl2
                    have hlew : WL.heap.size ≤ wr.drew.heap.size := bk.size
                    have b12 : Below WL.heap.size WL (w6.setCells wr.drew.heap.size 0 RE) := setCells_below hlew _ _ _ bk6
                    have hS12 : (w6.setCells wr.drew.heap.size 0 RE).cell? ⟨wL.heap.size, 4 + k, none⟩ = some (.string SS) ∧ (w6.setCells wr.drew.heap.size 0 RE).rangeAt gb (k * 7) RB := ⟨hY _ b12, hRB _ b12⟩
                    refine hK.out _ _ hS6 ?_
                    clear hK K
                    try simp only [Act.put, List.setIfInBounds_toArray, List.set_cons_zero, List.set_cons_succ]
                    refine take_at (i := 8) (v := ?_) rfl (by kernel_rfl) (by kernel_rfl) (by kernel_rfl) (fun _ _ _ h => h) (by rfl) ?_ (by assumption) ?_
                    rotate_left
                    · (intro wx hSw; obtain ⟨x0, -⟩ := hSw; go_simp; with_reducible rfl)
                    simp only [Act.put, List.setIfInBounds_toArray, List.set_cons_zero, List.set_cons_succ]
                    refine take_at (i := 9) (v := ?_) rfl (by kernel_rfl) (by kernel_rfl) (by kernel_rfl) (fun _ _ _ h => h) (by rfl) ?_ (by assumption) ?_
                    rotate_left
                    · (intro wx hSw; obtain ⟨x0, -⟩ := hSw; go_simp; with_reducible rfl)
                    simp only [Act.put, List.setIfInBounds_toArray, List.set_cons_zero, List.set_cons_succ]
                    refine take_at (i := 10) (v := ?_) rfl (by kernel_rfl) (by kernel_rfl) (by kernel_rfl) (fun _ _ _ h => h) (by rfl) ?_ (by assumption) ?_
                    rotate_left
                    · (intro wx hSw; obtain ⟨x0, -⟩ := hSw; go_simp; with_reducible rfl)
                    simp only [Act.put, List.setIfInBounds_toArray, List.set_cons_zero, List.set_cons_succ]
                    refine only_at (i := 12) rfl (by kernel_rfl) (by rfl) (fun K hK => ?_)
                    refine wp_store_mid 79 _ _ rfl wr.drew.heap.size 0 RE.toArray rfl rfl the (by simpa using hi2) ho2 ?_
                    refine hK.out _ _ hS12 ?_
                    clear hK K
                    simp only [Act.put]
                    clear the hSA hS6 bkA hb6 hSr hHeld xe xe6 hlew
                    generalize w6.setCells wr.drew.heap.size 0 RE = W12 at *
                    obtain ⟨eb, hebw⟩ : ∃ n, n = wr.drew.heap.size := ⟨_, rfl⟩
                    rw [← hebw] at rgE
                    have hebw2 : wr.heap.size = eb := hebw.symm
                    rw [hebw2]
                    clear hebw
                    refine take_at (i := 13) (v := ?_) rfl (by kernel_rfl) (by kernel_rfl) (by kernel_rfl) (fun _ _ _ h => h) (by rfl) ?_ (by assumption) ?_
                    rotate_left
                    · (intro wx hSw; obtain ⟨x0, -⟩ := hSw; go_simp; with_reducible rfl)
                    simp only [Act.put, List.setIfInBounds_toArray, List.set_cons_zero, List.set_cons_succ]
                    refine wpAnyH_done (by kernel_rfl) ?_ _
                    refine NoPanic.normal ?_
                    clear hS12
                    have yO := hOk W12 b12
                    cases hop : (ND.con k).op
                    · rw [hop] at yO
                      clear hGE hGB hEq hOk hY hRB
                      go_wp2
                      go_quiet (fail)
                      go_wp2
                      exact ⟨⟨k + 1, by omega, by go_num, below_dN b12⟩, by simp [intOf]; omega⟩
                    · rw [hop] at yO
                      obtain ⟨g0, g1, g2, g3, g4, g5, g6⟩ := hGB W12 b12
                      obtain ⟨e0, e1, e2, e3, e4, e5, e6⟩ := hGE hop W12 eb rgE
                      clear hGE hGB hOk hY hRB rgE
                      generalize b1 k 0 = v0 at *
                      generalize b1 k 1 = v1 at *
                      generalize b1 k 2 = v2 at *
                      generalize b1 k 3 = v3 at *
                      generalize b1 k 4 = v4 at *
                      generalize b1 k 5 = v5 at *
                      generalize b1 k 6 = v6 at *
                      go_wp2
                      go_quiet (fail)
                      go_wp2
                      exact ⟨⟨k + 1, by omega, by go_num, below_dN b12⟩, by simp [intOf]; omega⟩
                · have hk4 : k = 4 := by omega
                  subst hk4
                  rw [show ((4 : Nat) : Int) = 4 from rfl]
                  go_wp2
                  go_loopw [25] (fun i w' => ∃ s : Nat, s ≤ 6 ∧ i = .int .i64 s ∧ Below WL.heap.size WL w') (fun i _ => 6 - (intOf i).toNat)
                  case atStart => exact ⟨0, by omega, rfl, bk⟩
                  case round =>
                    clear rgk D5 bk
                    obtain ⟨t, ht, rfl, bt⟩ := hrel
                    have rgt := range_below rga hlta bt
                    have D6 := D4.below bt
                    by_cases ht6 : t < 6
                    · have htI : (t : Int) < 6 := by omega
                      have yt := rgt (8 + t * 6 + 4) _ (hG t ht6)
                      rw [Nat.zero_add] at yt
                      clear rgt hG hO hSe hB50
                      go_wp2
                      exact ⟨⟨t + 1, by omega, by go_num, bt⟩, by simp [intOf]; omega⟩
                    · have htI : ¬ ((t : Int) < 6) := by omega
                      have y50 : wr.cell? ⟨wL.heap.size, 50, none⟩ = some (.slice aa 0 ca) := rgt 50 _ hB50
                      go_wp2
                      go_ret
                      have fxF := D6.fr
                      exact ⟨rfl, fxF.os, fxF.tape, fxF.output, fxF.size, fun g hg => fxF.block g hg rfl⟩
end Go.Proofs.Ytlafkpaljibonaa

namespace Go.Proofs.Ytlafkpaljibonaa.drained
open Go.ChangeShapes Go.WideShapes Go.ChangeAt Go.RowKit Go.Joins Go.Deep Go.Proofs.Ytlafkpaljibonaa Go.Proofs.Ytlafkpaljibonaa.kscript

set_option maxRecDepth 100000 in
theorem contract (H : Type) (enc : TypeId × Value → H) (W : World) (base : Nat) (args : Array Value) (ds gs : List (DataW H)) (before : List MemPlace)
    (hval : ∀ (j : Nat) t v, Try.f9.params[j]? = some t → args[j]? = some v → Value.okWide Try.prog W .any base t v)
    (hW : DataW.Whole enc Try.prog Try.f9.params.toList Rows.drainedSpec.vars false W args.toList ds gs before) (hk : Rows.uptoSmall H (ds ++ gs) = true) :
    Calls Try.prog 9 args W fun e W' => ∃ v, e = .returned v ∧ Rows.drainedSpec.post enc Try.prog Try.f9 false true false false W args v W' := by
  have hW' := hW
  obtain ⟨p, q, hA0, hV, rfl, hfz, hnd⟩ := hW
  have hA : DataW.TrodAll enc Try.prog W 0 (fun _ => true) true Try.f9.params.toList args.toList ds p := hA0
  rw [Try.params9] at hA hval
  obtain ⟨v0, vs0, d0, ds0, p0, q0, hargs, rfl, rfl, h0, r0⟩ := trodAll_cons hA
  obtain ⟨v1, vs1, d1, ds1, p1, q1, rfl, rfl, rfl, h1, r1⟩ := trodAll_cons r0
  obtain ⟨rfl, rfl, rfl⟩ := trodAll_nil r1
  obtain rfl : args = #[v0, v1] := by cases args; simp_all
  obtain ⟨rfl, rfl⟩ := trodVars_none hV
  have k0 := h0
  have k1 := h1
  have lt0 : ∀ x ∈ p0, x.block < W.heap.size := by obtain ⟨m, hm⟩ := k0; exact DataW.trod_lt m _ _ _ hm
  have lt1 : ∀ x ∈ p1, x.block < W.heap.size := by obtain ⟨m, hm⟩ := k1; exact DataW.trod_lt m _ _ _ hm
  obtain ⟨c, rfl, hc64⟩ := cfg_of (hval 0 44 v0 rfl rfl) h0
  obtain ⟨a1, len1, cap1, rfl⟩ := okWide_slice Try.underlying45 (hval 1 45 v1 rfl rfl)
  obtain ⟨X, hX, hX64, hXs⟩ := steps_of h1
  clear hA0
  simp only [List.append_nil] at hW' hk
  have hb : Rows.uptoBulkAll _ ≤ 1048576 := of_decide_eq_true hk
  simp only [Rows.uptoBulkAll] at hb
  refine (drained_any c hc64 a1 len1 cap1 X W hX hX64 (by omega)).mono fun e W' ⟨he, bel⟩ => ?_
  subst he
  exact ⟨_, rfl, _, _, _, [], _, [], hW', trodAll_mk1 (shut_bool Try.underlying4 _), (trodAll_cons_mk (Below.trod laidOut (by kernel_rfl) (of_decide_eq_true (by kernel_rfl)) k0 bel lt0) (trodAll_cons_mk (Below.trod laidOut (by kernel_rfl) (of_decide_eq_true (by kernel_rfl)) k1 bel lt1) trodAll_mk0)), rfl, bel.frame _, fun h => by cases h⟩

set_option maxRecDepth 100000 in
theorem lifted (os : Os) (started : os.Started) (H : Type) (enc : TypeId × Value → H) (F : Stop.Interp) :
    ReturnsInHanded {} Try.checked os 9 .any ((Rows.OpenSpec.upto Rows.drainedSpec).pre6 enc Try.prog Try.f9 Rows.drainedUptoRow.domain false) (((Rows.OpenSpec.upto Rows.drainedSpec).at F).post enc Try.prog Try.f9 false true false false) := by
  refine returnsInHanded_of_cond (C := Try.checked) (s := Rows.OpenSpec.upto Rows.drainedSpec) (k := Rows.uptoSmall) rfl own started (by kernel_rfl) Try.func9
    (OpenSpec.witness (enc := enc) (C := Try.checked) (s := Rows.OpenSpec.upto Rows.drainedSpec) (k := Rows.uptoSmall) rfl false ⟨#[], #[.agg #[.int .i64 0, .bool false, .int .i64 0, .int .i64 0, .int .i64 0, .int .i64 0, .int .i64 0], .slice none 0 0], []⟩ 8 (by kernel_rfl) (by kernel_rfl) (by kernel_rfl)
      (x := ([.agg [.lit (.int .i64 0), .lit (.bool false), .lit (.int .i64 0), .lit (.int .i64 0), .lit (.int .i64 0), .lit (.int .i64 0), .lit (.int .i64 0)], .nil], [], [])) (by kernel_rfl) rfl (by kernel_rfl)) ?_
  intro W base args ds gs before hval hW _ hk _
  exact contract H enc W base args ds gs before hval hW hk

set_option maxRecDepth 100000 in
theorem proved : Rows.DrainedUptoSaid :=
  OpenClaim.holds_of_cond 9 Try.f9 rfl rfl rfl rfl rfl rfl rfl ⟨rfl, rfl, rfl, rfl, rfl⟩ rfl rfl rfl rfl rfl (by kernel_rfl) Try.func9 (by kernel_rfl)
    (of_decide_eq_true (by kernel_rfl)) (by unfold Func.isWrapper; first | (rw [if_pos (by decide +kernel)]; kernel_rfl) | (rw [if_neg (by decide +kernel)]; exact ⟨rfl, rfl⟩))
    (fun os started H enc _ F => lifted os started H enc F)
#print axioms proved
end Go.Proofs.Ytlafkpaljibonaa.drained
