import Derived.Test.YtlafkpaljibonaaJ10
import Derived.Test.YtlafkpaljibonaaJ11
namespace Go.Proofs.Ytlafkpaljibonaa
open Go.RowKit

theorem ba_split (t : ByteArray) (k : Nat) : t.extract 0 k ++ t.extract k t.size = t := by
  apply ByteArray.ext
  rw [ByteArray.data_append, ByteArray.data_extract, ByteArray.data_extract]
  apply Array.ext'
  simp only [Array.toList_append, Array.toList_extract, List.extract_eq_take_drop, List.drop_zero, Nat.sub_zero]
  have : t.size - k = (t.data.toList.drop k).length := by rw [List.length_drop, Array.length_toList]; rfl
  rw [this, List.take_length]
  exact List.take_append_drop k t.data.toList

section
variable {q B : Nat} {o : Nat → Tag} {w : World} {b : Nat} {m : PM} {sv : Nat → Value} {rv : Value}

set_option maxRecDepth 100000 in
set_option maxHeartbeats 4000000 in
theorem feeds_any (h : FMem o q w b m sv rv) (hq : q ≠ 0) (hf : m.Fit B) (hB : B ≤ 46000000) (k : Nat) (hk : k < 4) (s : ByteArray) (hs : s.size ≤ 1100000) (sp : Option Addr) (len cap : Nat) (P : Nat → Int) (hP : IsInts w sp len P) (hO : ∀ bb off, sp = some ⟨bb, off, none⟩ → 0 < len → (o bb).1 = 0) (hlen : len ≤ 9223372036854775807) :
    Calls Try.prog 26 #[.pointer (some ⟨b, 0, none⟩), .int .i64 k, .string s, .slice sp len cap] w fun r w' => r = .returned (.tuple #[]) ∧ Left o q w b (m.afterFeed k s) w' := by
  go_enter Try.func26, Try.ntmps26
  go_wp2
  go_loopw [2, 8] (fun sx i w' => ∃ (j : Nat) (c r : ByteArray) (M : PM), j ≤ len ∧ sx = .string r ∧ i = .int .i64 j ∧ c ++ r = s ∧ (∀ t, M.afterFeed k t = m.afterFeed k (c ++ t)) ∧ M.Fit (B + s.size + 300) ∧ Left o q w b M w') (fun _ i _ => len - (intOf i).toNat)
  case atStart =>
    refine ⟨0, ⟨#[]⟩, s, m, by omega, rfl, rfl, ?_, ?_, hf.mono (by omega), o, sv, rv, h, Fr.refl h.clean⟩
    · exact ByteArray.empty_append
    · intro t; rw [show ((⟨#[]⟩ : ByteArray) ++ t) = t from ByteArray.empty_append]
  case round =>
    obtain ⟨j, c, r, M, hj, rfl, rfl, hcr, hM, hFit, o1, sv1, rv1, hm, hfr⟩ := hrel
    have hsz : c.size + r.size = s.size := by rw [← hcr, ByteArray.size_append]
    by_cases hlt : j < len
    · have hjI : (j : Int) < len := by omega
      obtain ⟨bb, off, rfl, hcell, hrange⟩ : ∃ bb off, sp = some ⟨bb, off, none⟩ ∧ wr.cell? ⟨bb, off + j, none⟩ = some (.int .i64 (P j)) ∧ (-9223372036854775808 ≤ P j ∧ P j ≤ 9223372036854775807) := by
        rcases hP with e | ⟨bb, off, e, hbl, hc⟩
        · omega
        · refine ⟨bb, off, e, ?_, (hc j hlt).2⟩
          rw [World.cell?_of_block (hfr.block bb hbl (by rw [hO bb off e (by omega)]; omega))]
          exact (hc j hlt).1
      by_cases h0 : 0 < r.size
      · have h0I : (0 : Int) < r.size := by omega
        have hpk := pickI_bd (P j) (r.size + 1) (by omega)
        obtain ⟨N, hN⟩ : ∃ N : Nat, pickI (P j) ((r.size : Int) + 1) = N := ⟨(pickI (P j) ((r.size : Int) + 1)).toNat, by omega⟩
        have hNle : N ≤ r.size := by omega
        have q1 : Hid (∀ w', Calls Try.prog 15 #[.int .i64 (P j), .int .i64 ((r.size : Int) + 1)] w' fun r' w'' => r' = .returned (.int .i64 (N : Nat)) ∧ w'' = w') := fun w' => by
          have := pick_any (P j) ((r.size : Int) + 1) w' hrange.1 hrange.2 (by omega) (by omega)
          rw [hN] at this; exact this
        have kf : Hid (∀ w', FMem o1 q w' b M sv1 rv1 → Calls Try.prog 25 #[.pointer (some ⟨b, 0, none⟩), .int .i64 k, .string (r.extract 0 N)] w' fun r2 w'' => r2 = .returned (.int .i64 (M.chk k)) ∧ Left o1 q w' b (M.afterFeed k (r.extract 0 N)) w'') := fun w' h' => feed_left h' hq hFit (by omega) k _ (by rw [ByteArray.size_extract]; omega)
        have hsp := ba_split r N
        have hM2 : ∀ t, (M.afterFeed k (r.extract 0 N)).afterFeed k t = m.afterFeed k ((c ++ r.extract 0 N) ++ t) := fun t => by rw [afterFeed_cat hk, hM, ByteArray.append_assoc]
        have hF2 : (M.afterFeed k (r.extract 0 N)).Fit (B + s.size + 300) := by
          rw [hM]
          refine (hf.afterFeed k (c ++ r.extract 0 N)).mono ?_
          rw [ByteArray.size_append, ByteArray.size_extract]
          omega
        have hcr2 : (c ++ r.extract 0 N) ++ r.extract N r.size = s := by rw [ByteArray.append_assoc, hsp]; exact hcr
        have hfin : Hid _ := And.intro hM2 (And.intro hF2 hcr2)
        clear hM hM2 hF2 hcr2 hsp hcr hFit
        have hNI : (N : Int) ≤ r.size := by omega
        go_wp2_with fail
        refine (q1.out _).mono ?_
        rintro e w1 ⟨rfl, rfl⟩
        go_wp2_with fail
        refine (kf.out _ hm).mono ?_
        rintro e w2 ⟨rfl, o2, sv2, rv2, hm2, fr2⟩
        clear hcell
        go_wp2
        obtain ⟨x1, x2, x3⟩ := hfin.out
        exact ⟨⟨j + 1, c ++ r.extract 0 N, r.extract N r.size, M.afterFeed k (r.extract 0 N), by omega, rfl, by go_num, x3, x1, x2, o2, sv2, rv2, hm2, hfr.trans fr2⟩, by simp [intOf]; omega⟩
      · have h0I : ¬ ((0 : Int) < r.size) := by omega
        have kf : Hid (∀ w', FMem o1 q w' b M sv1 rv1 → Calls Try.prog 25 #[.pointer (some ⟨b, 0, none⟩), .int .i64 k, .string r] w' fun r2 w'' => r2 = .returned (.int .i64 (M.chk k)) ∧ Left o1 q w' b (M.afterFeed k r) w'') := fun w' h' => feed_left h' hq hFit (by omega) k _ (by omega)
        have he : M.afterFeed k r = m.afterFeed k s := by rw [hM, hcr]
        rw [he] at kf
        go_wp2_with fail
        refine (kf.out _ hm).mono ?_
        rintro e w2 ⟨rfl, o2, sv2, rv2, hm2, fr2⟩
        go_wp2
        exact bodyPost_end (v := .tuple #[]) (by simp [results, Try.results26, go_sem]) rfl ⟨rfl, o2, sv2, rv2, hm2, hfr.trans fr2⟩
    · have hjI : ¬ ((j : Int) < len) := by omega
      have kf : Hid (∀ w', FMem o1 q w' b M sv1 rv1 → Calls Try.prog 25 #[.pointer (some ⟨b, 0, none⟩), .int .i64 k, .string r] w' fun r2 w'' => r2 = .returned (.int .i64 (M.chk k)) ∧ Left o1 q w' b (M.afterFeed k r) w'') := fun w' h' => feed_left h' hq hFit (by omega) k _ (by omega)
      have he : M.afterFeed k r = m.afterFeed k s := by rw [hM, hcr]
      rw [he] at kf
      go_wp2_with fail
      refine (kf.out _ hm).mono ?_
      rintro e w2 ⟨rfl, o2, sv2, rv2, hm2, fr2⟩
      go_wp2
      exact bodyPost_end (v := .tuple #[]) (by simp [results, Try.results26, go_sem]) rfl ⟨rfl, o2, sv2, rv2, hm2, hfr.trans fr2⟩
end
end Go.Proofs.Ytlafkpaljibonaa

namespace Go.Proofs.Ytlafkpaljibonaa
open Go.RowKit

def noK : Nat → Tag := fun _ => (0, 0)

theorem open_connect (m : PM) {k : Nat} (hk : k < 4) : (m.afterConnect k).chk k = 0 := by
  have hC : isC (k : Int) = true := by simp [isC]; omega
  unfold PM.afterConnect PM.chk
  rw [hC]
  simp only [cond_true, Int.toNat_natCast, Bool.true_and]
  cases ho : (m.con k).op
  · simp only [Bool.not_false, cond_true, PM.connect, upd_same]
  · simp only [Bool.not_true, cond_false, ho, cond_true]

theorem ktot_ge (X : Nat → KSt) : ∀ k, k ≤ ktot X k
  | 0 => Nat.le_refl _
  | k + 1 => by have := ktot_ge X k; simp only [ktot]; omega

theorem kst_info (x : KSt) : (Try.prog.info? 51).map (·.size) = some x.cells.length := by
  show (Try.prog.info? 51).map (·.size) = some 12
  kernel_rfl

theorem setCells_size (b : Nat) : ∀ (vs : List Value) (o : Nat) (w : World), (w.setCells b o vs).heap.size = w.heap.size
  | [], _, _ => rfl
  | v :: vs, o, w => (setCells_size b vs (o + 1) _).trans (by simp [World.setCell])

def zeroL : List Value := lookC ⟨⟨0, false, 0, 0, 0, 0, 0⟩, 0, fun _ => ⟨false, ⟨#[]⟩, []⟩, [], fun _ => newSlot 0⟩ 0 0 (.slice none 0 0) 0 false

/-- A Look is laid into a variable of its own. -/
theorem put_look (w : World) (L : List Value) (hL : L.length = 53) :
    (w.alloc (.cells zeroL.toArray 63)).there w.heap.size 0 L.toArray.size ∧ Below w.heap.size w ((w.alloc (.cells zeroL.toArray 63)).setCells w.heap.size 0 L) ∧ ((w.alloc (.cells zeroL.toArray 63)).setCells w.heap.size 0 L).rangeAt w.heap.size 0 L ∧ w.heap.size < ((w.alloc (.cells zeroL.toArray 63)).setCells w.heap.size 0 L).heap.size := by
  have x := Blk.made w 63 zeroL
  have hz : zeroL.length = 53 := rfl
  have th : (w.alloc (.cells zeroL.toArray 63)).there w.heap.size 0 L.length := by
    intro j hj
    refine ⟨?_, x.frozen _⟩
    rw [x.cell (k := 0 + j) (u := zeroL[j]'(by omega)) (by rw [Nat.zero_add]; exact List.getElem?_eq_getElem _)]
    rfl
  exact ⟨by simpa using th, setCells_below (Nat.le_refl _) _ _ _ ((Below.refl _ _).alloc (Nat.le_refl _) _), World.rangeAt_setCells_same _ _ _ _ th, by rw [setCells_size]; simp⟩

theorem range_below {w w' : World} {b o : Nat} {L : List Value} (h : w.rangeAt b o L) (hb : b < w.heap.size) (hf : Below w.heap.size w w') : w'.rangeAt b o L := fun j v hv => by
  rw [hf.cell (by exact hb)]; exact h j v hv

theorem look_own {w w' : World} {B n : Nat} {v : Value} {xs : List Value} (h : w.ownsRow B 109 2 v n xs) (hb : Below w.heap.size w w') : w'.ownsRow B 109 2 v n xs := own_keepAt h (fun g hg => hb.block g (h.lt g hg).2) (Nat.le_refl _)

set_option maxRecDepth 100000 in
set_option maxHeartbeats 8000000 in
theorem chunks_any (c : Cfg) (hc : c.in64) (aX : Option Addr) (nX cX : Nat) (X : Nat → KSt) (conn : Int) (hconn : i64R conn) (s : ByteArray) (hs : s.size ≤ 1048576) (aP : Option Addr) (nP cP : Nat) (P : Nat → Int) (aY : Option Addr) (nY cY : Nat) (Y : Nat → KSt) (w : World)
    (hX : IsKSteps w aX nX X) (hX64 : ∀ k, k < nX → (X k).in64) (hP : IsInts w aP nP P) (hnP : nP ≤ 9223372036854775807) (hY : IsKSteps w aY nY Y) (hY64 : ∀ k, k < nY → (Y k).in64) (hsum : ktot X nX + ktot Y nY ≤ 40000000) :
    Calls Try.prog 5 #[c.val, .slice aX nX cX, .int .i64 conn, .string s, .slice aP nP cP, .slice aY nY cY] w fun r w' => r = .returned (.bool true) ∧ Below w.heap.size w w' := by
  have kS : Hid (∀ w', Calls Try.prog 21 #[c.val] w' fun r w'' => r = .returned (setC c).val ∧ Below w'.heap.size w' w'') := fun w' => settings_any c hc w'
  have kO : Hid (∀ (q : Nat) (o : Nat → Tag) w', Clean o w' → Calls Try.prog 22 #[(setC c).val] w' fun r w'' => ∃ b o', r = .returned (.pointer (some ⟨b, 0, none⟩)) ∧ FMem o' q w'' b (newPM (setC c)) nilV (.slice none 0 0) ∧ Fr q o w' o' w'') := fun q o w' ho => opened_any (setC c) (setC_ok c) ho
  have hF0 : (newPM (setC c)).Fit 0 := new_fit _
  have hgX := ktot_ge X nX
  have hgY := ktot_ge Y nY
  generalize newPM (setC c) = m0 at *
  generalize setC c = SC at *
  have hpk := pickI_bd conn 4 (by omega)
  obtain ⟨k, hk⟩ : ∃ k : Nat, pickI conn 4 = k := ⟨(pickI conn 4).toNat, by omega⟩
  have hk4 : k < 4 := by omega
  have kP : Hid (∀ w', Calls Try.prog 15 #[.int .i64 conn, .int .i64 4] w' fun r w'' => r = .returned (.int .i64 (k : Nat)) ∧ w'' = w') := fun w' => by
    have := pick_any conn 4 w' hconn.1 hconn.2 (by omega) (by omega)
    rw [hk] at this; exact this
  clear hpk hk
  unfold Cfg.val at *
  have hb0 : Below w.heap.size w (w.alloc (.cells #[.int .i64 c.ch, .bool c.dyn, .int .i64 c.mn, .int .i64 c.mx, .int .i64 c.mr, .int .i64 c.tmo, .int .i64 c.bl] 44)) := (Below.refl _ _).alloc (Nat.le_refl _) _
  go_enter Try.func5, Try.ntmps5
  go_wp2_with fail
  refine (kS.out _).mono ?_
  rintro e w1 ⟨rfl, hb1⟩
  have hb01 := hb0.trans (hb1.mono hb0.size)
  have hbx : Below w1.heap.size w1 (w1.alloc (.cells #[.int .i64 SC.ch, .bool SC.dyn, .int .i64 SC.mn, .int .i64 SC.mx, .int .i64 SC.mr, .int .i64 SC.tmo, .int .i64 SC.bl] 44)) := (Below.refl _ _).alloc (Nat.le_refl _) _
  have x0 := Blk.made w1 44 SC.cells
  have hb2 := hb01.trans (hbx.mono hb01.size)
  clear hb0 hb1
  go_wp2_with fail
  have x1 : Blk (w1.alloc (.cells #[.int .i64 SC.ch, .bool SC.dyn, .int .i64 SC.mn, .int .i64 SC.mx, .int .i64 SC.mr, .int .i64 SC.tmo, .int .i64 SC.bl] 44)) w1.heap.size 44 SC.cells := x0
  clear x0 hbx
  generalize w1.alloc (.cells #[.int .i64 SC.ch, .bool SC.dyn, .int .i64 SC.mn, .int .i64 SC.mx, .int .i64 SC.mr, .int .i64 SC.tmo, .int .i64 SC.bl] 44) = w2 at *
  refine (kO.out 1 noK _ (fun _ _ => rfl)).mono ?_
  rintro e w3 ⟨fb, o3, rfl, hm3, fr3⟩
  have x3 := x1.keep (fr3.block _ x1.lt (by simp [noK]))
  have d0 := x3.cell (k := 0) (u := .int .i64 SC.ch) rfl
  have d1 := x3.cell (k := 1) (u := .bool SC.dyn) rfl
  have d2 := x3.cell (k := 2) (u := .int .i64 SC.mn) rfl
  have d3 := x3.cell (k := 3) (u := .int .i64 SC.mx) rfl
  have d4 := x3.cell (k := 4) (u := .int .i64 SC.mr) rfl
  have d5 := x3.cell (k := 5) (u := .int .i64 SC.tmo) rfl
  have d6 := x3.cell (k := 6) (u := .int .i64 SC.bl) rfl
  go_wp2_with fail
  refine (kO.out 2 o3 _ hm3.clean).mono ?_
  rintro e w4 ⟨gb, o4, rfl, hm4, fr4⟩
  clear d0 d1 d2 d3 d4 d5 d6 x1 x3
  have pr0 : Pair o4 w4 fb gb m0 m0 := ⟨⟨_, _, hm3.fr fr4 (by omega)⟩, ⟨_, _, hm4⟩⟩
  have fx0 : FrN noK w o4 w4 := ((FrN.of_below (o := noK) (fun _ _ => rfl) hb2).trans (fr3.toN (by omega))).trans (fr4.toN (by omega))
  clear hm3 hm4 fr3 fr4 hb2 hb01 kO kS
  go_wp2_with fail
  refine (kP.out _).mono ?_
  rintro e w5 ⟨rfl, rfl⟩
  go_wp2
  go_loopw [17] (fun i w' => ∃ j : Nat, j ≤ nX ∧ i = .int .i64 j ∧ ∃ o', Pair o' w' fb gb (m0.doTo X j) (m0.doTo X j) ∧ FrN noK w o' w') (fun i _ => nX - (intOf i).toNat)
  case atStart => exact ⟨0, by omega, rfl, o4, pr0, fx0⟩
  case round =>
    obtain ⟨j, hj, rfl, o3, pr, fxr⟩ := hrel
    clear pr0 fx0
    by_cases hlt : j < nX
    · obtain ⟨bb, off, rfl, hcell⟩ : ∃ bb off, aX = some ⟨bb, off, none⟩ ∧ ∀ o' w', FrN noK w o' w' → ∀ i u, ((X j).cells)[i]? = some u → w'.cell? ⟨bb, off + j * 12 + i, none⟩ = some u := by
        rcases hX with e | ⟨bb, off, e, hbl, hc⟩
        · omega
        · exact ⟨bb, off, e, fun o' w' hf i u hu => by rw [World.cell?_of_block (hf.block bb hbl rfl)]; exact hc j hlt i u hu⟩
      have hjI : (j : Int) < nX := by omega
      have hFit : (m0.doTo X j).Fit (0 + ktot X j) := hF0.doTo X j
      have hkt := ktot_mono X (show j + 1 ≤ nX from hlt)
      have hkt' : ktot X (j + 1) = ktot X j + (X j).s.size + 520 := rfl
      have hx64 := hX64 j hlt
      have HD : Hid (m0.doTo X (j + 1) = (m0.doTo X j).doM (X j)) := rfl
      have D1 : Hid (∀ o' w', Pair o' w' fb gb (m0.doTo X j) (m0.doTo X j) → Calls Try.prog 23 #[.pointer (some ⟨fb, 0, none⟩), .agg (X j).cells.toArray] w' fun r w'' => r = .returned (.int .i64 ((m0.doTo X j).doE (X j))) ∧ ∃ o'', Pair o'' w'' fb gb ((m0.doTo X j).doM (X j)) (m0.doTo X j) ∧ FrN o' w' o'' w'') := fun o' w' h' => pair_do1 h' hFit (by omega) (X j) hx64 (by omega)
      have D2 : Hid (∀ o' w', Pair o' w' fb gb ((m0.doTo X j).doM (X j)) (m0.doTo X j) → Calls Try.prog 23 #[.pointer (some ⟨gb, 0, none⟩), .agg (X j).cells.toArray] w' fun r w'' => r = .returned (.int .i64 ((m0.doTo X j).doE (X j))) ∧ ∃ o'', Pair o'' w'' fb gb ((m0.doTo X j).doM (X j)) ((m0.doTo X j).doM (X j)) ∧ FrN o' w' o'' w'') := fun o' w' h' => pair_do2 h' hFit (by omega) (X j) hx64 (by omega)
      clear hFit hkt hkt' hx64
      generalize (m0.doTo X j).doM (X j) = M2 at *
      generalize (m0.doTo X j).doE (X j) = EE at *
      generalize m0.doTo X j = M1 at *
      have hI := kst_info (X j)
      generalize (X j).cells = VC at *
      have r1 : wr.rangeAt bb (off + j * 12) VC := fun i v hv => hcell _ _ fxr i v hv
      go_wp2_with (refine wpList_load_mid rfl 51 _ rfl bb (off + j * 12) rfl VC _ r1 Try.underlying51 rfl hI ?_)
      refine (D1.out _ _ pr).mono ?_
      rintro e w4 ⟨rfl, o4, pr4, fx4⟩
      have fxr4 := fxr.trans fx4
      have r2 : w4.rangeAt bb (off + j * 12) VC := fun i v hv => hcell _ _ fxr4 i v hv
      clear r1
      go_wp2_with (refine wpList_load_mid rfl 51 _ rfl bb (off + j * 12) rfl VC _ r2 Try.underlying51 rfl hI ?_)
      refine (D2.out _ _ pr4).mono ?_
      rintro e w5 ⟨rfl, o5, pr5, fx5⟩
      clear r2
      go_wp2
      exact ⟨⟨j + 1, by omega, by go_num, o5, by rw [HD.out]; exact pr5, fxr4.trans fx5⟩, by simp [intOf]; omega⟩
    · have hjn : j = nX := by omega
      have hjI : ¬ ((j : Int) < nX) := by omega
      subst hjn
      have hFit := hF0.doTo X j
      generalize m0.doTo X j = M at *
      have hFc := hFit.afterConnect k
      have hopen := open_connect M hk4
      have e1 : Hid (∀ o' w', Pair o' w' fb gb M M → Calls Try.prog 24 #[.pointer (some ⟨fb, 0, none⟩), .int .i64 (k : Nat)] w' fun r w'' => r = .returned (.int .i64 (M.connectE k)) ∧ ∃ o'', Pair o'' w'' fb gb (M.afterConnect k) M ∧ FrN o' w' o'' w'') := fun o' w' h' => by
        obtain ⟨a, b, h1⟩ := h'.f
        refine (connect_left h1 k).mono ?_
        rintro r w'' ⟨e, hl⟩
        exact ⟨e, h'.left1 hl⟩
      have e2 : Hid (∀ o' w', Pair o' w' fb gb (M.afterConnect k) M → Calls Try.prog 24 #[.pointer (some ⟨gb, 0, none⟩), .int .i64 (k : Nat)] w' fun r w'' => r = .returned (.int .i64 (M.connectE k)) ∧ ∃ o'', Pair o'' w'' fb gb (M.afterConnect k) (M.afterConnect k) ∧ FrN o' w' o'' w'') := fun o' w' h' => by
        obtain ⟨a, b, h1⟩ := h'.g
        refine (connect_left h1 k).mono ?_
        rintro r w'' ⟨e, hl⟩
        exact ⟨e, h'.left2 hl⟩
      generalize M.connectE k = CE at *
      generalize M.afterConnect k = N at *
      have e3 : Hid (∀ o' w', Pair o' w' fb gb N N → Calls Try.prog 25 #[.pointer (some ⟨fb, 0, none⟩), .int .i64 (k : Nat), .string s] w' fun r w'' => r = .returned (.int .i64 0) ∧ ∃ o'', Pair o'' w'' fb gb (N.afterFeed k s) N ∧ FrN o' w' o'' w'') := fun o' w' h' => by
        obtain ⟨a, b, h1⟩ := h'.f
        refine (feed_left h1 (by omega) hFc (by omega) k s (by omega)).mono ?_
        rintro r w'' ⟨e, hl⟩
        rw [hopen] at e
        exact ⟨e, h'.left1 hl⟩
      have e4 : Hid (∀ o' w', Pair o' w' fb gb (N.afterFeed k s) N → FrN noK w o' w' → Calls Try.prog 26 #[.pointer (some ⟨gb, 0, none⟩), .int .i64 (k : Nat), .string s, .slice aP nP cP] w' fun r w'' => r = .returned (.tuple #[]) ∧ ∃ o'', Pair o'' w'' fb gb (N.afterFeed k s) (N.afterFeed k s) ∧ FrN o' w' o'' w'') := fun o' w' h' hf' => by
        obtain ⟨a, b, h1⟩ := h'.g
        have hP' : IsInts w' aP nP P := by
          rcases hP with e | ⟨bb, off, e, hbl, hcc⟩
          · exact .inl e
          · exact .inr ⟨bb, off, e, Nat.lt_of_lt_of_le hbl hf'.size, fun i hi => ⟨by rw [World.cell?_of_block (hf'.block bb hbl rfl)]; exact (hcc i hi).1, (hcc i hi).2⟩⟩
        have hO' : ∀ bb off, aP = some ⟨bb, off, none⟩ → 0 < nP → (o' bb).1 = 0 := by
          intro bb off e hn
          rcases hP with e0 | ⟨bb', off', e', hbl, -⟩
          · omega
          · rw [e] at e'
            simp only [Option.some.injEq, Addr.mk.injEq, and_true] at e'
            rw [e'.1, hf'.tags bb' hbl]
            rfl
        refine (feeds_any h1 (by omega) hFc (by omega) k hk4 s (by omega) aP nP cP P hP' hO' hnP).mono ?_
        rintro r w'' ⟨e, hl⟩
        exact ⟨e, h'.left2 hl⟩
      go_wp2_with fail
      refine (e1.out _ _ pr).mono ?_
      rintro e w6 ⟨rfl, o6, pr6, fx6⟩
      go_wp2_with fail
      refine (e2.out _ _ pr6).mono ?_
      rintro e w7 ⟨rfl, o7, pr7, fx7⟩
      go_wp2_with fail
      refine (e3.out _ _ pr7).mono ?_
      rintro e w8 ⟨rfl, o8, pr8, fx8⟩
      have fxr8 := ((fxr.trans fx6).trans fx7).trans fx8
      go_wp2_with fail
      refine (e4.out _ _ pr8 fxr8).mono ?_
      rintro e w9 ⟨rfl, o9, pr9, fx9⟩
      have fxr9 := fxr8.trans fx9
      obtain ⟨BB, hBB, hFs⟩ : ∃ BB, BB ≤ ktot X j + s.size + 300 ∧ (N.afterFeed k s).Fit BB := ⟨0 + ktot X j + s.size + 300, by omega, hFc.afterFeed k s⟩
      clear e1 e2 e3 e4 pr pr6 pr7 pr8 fxr fx6 fx7 fx8 fx9 fxr8 hFc hFit
      generalize N.afterFeed k s = m1 at *
      go_wp2
      go_loopw [19] (fun i w' => ∃ j : Nat, j ≤ nY ∧ i = .int .i64 j ∧ ∃ o', Pair o' w' fb gb (m1.doTo Y j) (m1.doTo Y j) ∧ FrN noK w o' w') (fun i _ => nY - (intOf i).toNat)
      case atStart => exact ⟨0, by omega, rfl, o9, pr9, fxr9⟩
      case round =>
        clear pr9 fxr9
        obtain ⟨j, hj, rfl, o3, pr, fxr⟩ := hrel
        by_cases hlt : j < nY
        · obtain ⟨bb, off, rfl, hcell⟩ : ∃ bb off, aY = some ⟨bb, off, none⟩ ∧ ∀ o' w', FrN noK w o' w' → ∀ i u, ((Y j).cells)[i]? = some u → w'.cell? ⟨bb, off + j * 12 + i, none⟩ = some u := by
            rcases hY with e | ⟨bb, off, e, hbl, hc⟩
            · omega
            · exact ⟨bb, off, e, fun o' w' hf i u hu => by rw [World.cell?_of_block (hf.block bb hbl rfl)]; exact hc j hlt i u hu⟩
          have hjI : (j : Int) < nY := by omega
          have hFit : (m1.doTo Y j).Fit (BB + ktot Y j) := hFs.doTo Y j
          have hkt := ktot_mono Y (show j + 1 ≤ nY from hlt)
          have hkt' : ktot Y (j + 1) = ktot Y j + (Y j).s.size + 520 := rfl
          have hx64 := hY64 j hlt
          have HD : Hid (m1.doTo Y (j + 1) = (m1.doTo Y j).doM (Y j)) := rfl
          have D1 : Hid (∀ o' w', Pair o' w' fb gb (m1.doTo Y j) (m1.doTo Y j) → Calls Try.prog 23 #[.pointer (some ⟨fb, 0, none⟩), .agg (Y j).cells.toArray] w' fun r w'' => r = .returned (.int .i64 ((m1.doTo Y j).doE (Y j))) ∧ ∃ o'', Pair o'' w'' fb gb ((m1.doTo Y j).doM (Y j)) (m1.doTo Y j) ∧ FrN o' w' o'' w'') := fun o' w' h' => pair_do1 h' hFit (by omega) (Y j) hx64 (by omega)
          have D2 : Hid (∀ o' w', Pair o' w' fb gb ((m1.doTo Y j).doM (Y j)) (m1.doTo Y j) → Calls Try.prog 23 #[.pointer (some ⟨gb, 0, none⟩), .agg (Y j).cells.toArray] w' fun r w'' => r = .returned (.int .i64 ((m1.doTo Y j).doE (Y j))) ∧ ∃ o'', Pair o'' w'' fb gb ((m1.doTo Y j).doM (Y j)) ((m1.doTo Y j).doM (Y j)) ∧ FrN o' w' o'' w'') := fun o' w' h' => pair_do2 h' hFit (by omega) (Y j) hx64 (by omega)
          clear hFit hkt hkt' hx64
          generalize (m1.doTo Y j).doM (Y j) = M2 at *
          generalize (m1.doTo Y j).doE (Y j) = EE at *
          generalize m1.doTo Y j = M1 at *
          have hI := kst_info (Y j)
          generalize (Y j).cells = VC at *
          have r1 : wr.rangeAt bb (off + j * 12) VC := fun i v hv => hcell _ _ fxr i v hv
          go_wp2_with (refine wpList_load_mid rfl 51 _ rfl bb (off + j * 12) rfl VC _ r1 Try.underlying51 rfl hI ?_)
          refine (D1.out _ _ pr).mono ?_
          rintro e w4 ⟨rfl, o4, pr4, fx4⟩
          have fxr4 := fxr.trans fx4
          have r2 : w4.rangeAt bb (off + j * 12) VC := fun i v hv => hcell _ _ fxr4 i v hv
          clear r1
          go_wp2_with (refine wpList_load_mid rfl 51 _ rfl bb (off + j * 12) rfl VC _ r2 Try.underlying51 rfl hI ?_)
          refine (D2.out _ _ pr4).mono ?_
          rintro e w5 ⟨rfl, o5, pr5, fx5⟩
          clear r2
          go_wp2
          exact ⟨⟨j + 1, by omega, by go_num, o5, by rw [HD.out]; exact pr5, fxr4.trans fx5⟩, by simp [intOf]; omega⟩
        · have hjn : j = nY := by omega
          have hjI : ¬ ((j : Int) < nY) := by omega
          subst hjn
          have hFit := hFs.doTo Y j
          generalize m1.doTo Y j = M at *
          have hreq : M.req.length ≤ 1000000000 := by have := hFit.small.req; omega
          have hwl : M.waits.length ≤ 1000000000000 := by
            have : M.waits.length ≤ M.req.length := by simp only [PM.waits, List.length_map]; exact List.length_filter_le _ _
            omega
          obtain ⟨sa, ra, ha⟩ := pr.f
          obtain ⟨sb, rb, hb⟩ := pr.g
          go_wp2_with fail
          refine (look_any ha (by omega)).mono ?_
          rintro e w6 ⟨va, rfl, oa, ba⟩
          obtain ⟨aa, ca, hva, -, -⟩ := own_slice oa
          subst hva
          have hIa := lookC_info M (.slice aa M.waits.length ca) M.time true
          have hOa := lookC_one M aa M.waits.length ca M.time true
          obtain ⟨tha, bla, rga, hlta⟩ := put_look w6 (lookC M 4 6 (.slice aa M.waits.length ca) M.time true) rfl
          have AK : Hid (∀ w' B1 B2 (bb2 : Option Addr) cb2, w'.ownsRow B1 109 2 (.slice aa M.waits.length ca) M.waits.length (keyCells M.waits) → w'.ownsRow B2 109 2 (.slice bb2 M.waits.length cb2) M.waits.length (keyCells M.waits) → Calls Try.prog 28 #[.agg (lookC M 4 6 (.slice aa M.waits.length ca) M.time true).toArray, .agg (lookC M 4 6 (.slice bb2 M.waits.length cb2) M.time true).toArray] w' fun r w'' => r = .returned (.bool true) ∧ Below w'.heap.size w' w'') := fun w' B1 B2 bb2 cb2 x y => alike_any M x y hwl
          generalize lookC M 4 6 (.slice aa M.waits.length ca) M.time true = LA at *
          have hb7 := (hb.below ba).below bla
          have oa7 := look_own oa bla
          have b7 := ba.trans (bla.mono ba.size)
          go_wp2_with (refine wpList_store_mid rfl 63 _ _ rfl w6.heap.size 0 LA.toArray rfl rfl tha (by simpa using hIa) hOa ?_)
          refine (look_any hb7 (by omega)).mono ?_
          rintro e w8 ⟨vb, rfl, ob, bb8⟩
          obtain ⟨ab, cb, hvb, -, -⟩ := own_slice ob
          subst hvb
          have hIb := lookC_info M (.slice ab M.waits.length cb) M.time true
          have hOb := lookC_one M ab M.waits.length cb M.time true
          obtain ⟨thb, blb, rgb, -⟩ := put_look w8 (lookC M 4 6 (.slice ab M.waits.length cb) M.time true) rfl
          have AK2 : Hid (∀ w' B1 B2, w'.ownsRow B1 109 2 (.slice aa M.waits.length ca) M.waits.length (keyCells M.waits) → w'.ownsRow B2 109 2 (.slice ab M.waits.length cb) M.waits.length (keyCells M.waits) → Calls Try.prog 28 #[.agg LA.toArray, .agg (lookC M 4 6 (.slice ab M.waits.length cb) M.time true).toArray] w' fun r w'' => r = .returned (.bool true) ∧ Below w'.heap.size w' w'') := fun w' B1 B2 x y => AK.out w' B1 B2 ab cb x y
          clear AK
          generalize lookC M 4 6 (.slice ab M.waits.length cb) M.time true = LB at *
          have oa9 := look_own (look_own oa7 bb8) blb
          have ob9 := look_own ob blb
          have rga8 := range_below rga hlta bb8
          have hlt8 := Nat.lt_of_lt_of_le hlta bb8.size
          have rga9 := range_below rga8 hlt8 blb
          have b9 : Below wr.heap.size wr _ := (b7.trans (bb8.mono b7.size)).trans (blb.mono (b7.trans (bb8.mono b7.size)).size)
          clear hb7 oa oa7 ob rga rga8 bla tha hb
          go_wp2_with (first | (refine wpList_store_mid rfl 63 _ _ rfl w8.heap.size 0 LB.toArray rfl rfl thb (by simpa using hIb) hOb ?_) | (refine wpList_load_mid rfl 63 _ rfl w6.heap.size 0 rfl LA _ rga9 Try.underlying63 rfl hIa ?_) | (refine wpList_load_mid rfl 63 _ rfl w8.heap.size 0 rfl LB _ rgb Try.underlying63 rfl hIb ?_))
          refine (AK2.out _ _ _ oa9 ob9).mono ?_
          rintro e w10 ⟨rfl, b10⟩
          clear rga9 rgb thb
          go_wp2
          go_ret
          have fxF := (fxr.below b9).below b10
          exact ⟨rfl, fxF.os, fxF.tape, fxF.output, fxF.size, fun g hg => fxF.block g hg rfl⟩

end Go.Proofs.Ytlafkpaljibonaa

namespace Go.Proofs.Ytlafkpaljibonaa.chunks
open Go.ChangeMaps (open_string shut_string)
open Go.ChangeShapes Go.WideShapes Go.ChangeAt Go.RowKit Go.Joins Go.Deep Go.Proofs.Ytlafkpaljibonaa Go.Proofs.Ytlafkpaljibonaa.kscript

set_option maxRecDepth 100000 in
theorem ints_of {H : Type} {enc : TypeId × Value → H} {W : World} {a : Option Addr} {len cap : Nat} {d : DataW H} {p : List MemPlace}
    (h : DataW.Trod enc Try.prog W 0 (fun _ => true) true 33 (.slice a len cap) d p) : ∃ P, IsInts W a len P ∧ len ≤ 9223372036854775807 := by
  obtain ⟨fuel, hf⟩ := h
  rcases open_ints Try.underlying33 Try.underlying3 cellsInt hf with ⟨hcs, _⟩ | ⟨x, l, c, zs, hcs, _, hl, hm, hz, _, hcell, hwz⟩
  · simp [Value.cells] at hcs
    obtain ⟨rfl, rfl, rfl⟩ := hcs
    exact ⟨fun _ => 0, .inl rfl, by omega⟩
  · simp [Value.cells] at hcs
    obtain ⟨rfl, rfl, rfl⟩ := hcs
    have hlen : len ≤ 9223372036854775807 := by unfold maxLen at hm; omega
    by_cases h0 : len = 0
    · exact ⟨fun _ => 0, .inl h0, hlen⟩
    · have hz' : zs.length = cap := by simpa using hz
      refine ⟨fun k => zs.getD k 0, .inr ?_, hlen⟩
      obtain ⟨b, off, spot⟩ := x
      have hc := hcell 0 (by omega)
      have hspot : spot = none := by simpa [Addr.add] using World.cell?_spot hc
      subst hspot
      have hadd : ∀ i j : Nat, ((⟨b, i, none⟩ : Addr).add j) = ⟨b, i + j, none⟩ := fun i j => by unfold Addr.add; split <;> simp_all
      refine ⟨b, off, rfl, ?_, ?_⟩
      · have := World.block_lt_of_cell? _ _ hc
        rw [hadd] at this
        exact this
      · intro k hk
        have := hcell k (by omega)
        rw [hadd] at this
        refine ⟨this, wf_bd (hwz _ ?_)⟩
        have hkl : k < zs.length := by omega
        simp [List.getD, List.getElem?_eq_getElem hkl]

set_option maxRecDepth 100000 in
theorem contract (H : Type) (enc : TypeId × Value → H) (W : World) (base : Nat) (args : Array Value) (ds gs : List (DataW H)) (before : List MemPlace)
    (hval : ∀ (j : Nat) t v, Try.f5.params[j]? = some t → args[j]? = some v → Value.okWide Try.prog W .any base t v)
    (hW : DataW.Whole enc Try.prog Try.f5.params.toList Rows.chunksSpec.vars false W args.toList ds gs before) (hk : Rows.uptoSmall H (ds ++ gs) = true) :
    Calls Try.prog 5 args W fun e W' => ∃ v, e = .returned v ∧ Rows.chunksSpec.post enc Try.prog Try.f5 false true false false W args v W' := by
  have hW' := hW
  obtain ⟨p, q, hA0, hV, rfl, hfz, hnd⟩ := hW
  have hA : DataW.TrodAll enc Try.prog W 0 (fun _ => true) true Try.f5.params.toList args.toList ds p := hA0
  rw [Try.params5] at hA hval
  obtain ⟨v0, vs0, d0, ds0, p0, q0, hargs, rfl, rfl, h0, r0⟩ := trodAll_cons hA
  obtain ⟨v1, vs1, d1, ds1, p1, q1, rfl, rfl, rfl, h1, r1⟩ := trodAll_cons r0
  obtain ⟨v2, vs2, d2, ds2, p2, q2, rfl, rfl, rfl, h2, r2⟩ := trodAll_cons r1
  obtain ⟨v3, vs3, d3, ds3, p3, q3, rfl, rfl, rfl, h3, r3⟩ := trodAll_cons r2
  obtain ⟨v4, vs4, d4, ds4, p4, q4, rfl, rfl, rfl, h4, r4⟩ := trodAll_cons r3
  obtain ⟨v5, vs5, d5, ds5, p5, q5, rfl, rfl, rfl, h5, r5⟩ := trodAll_cons r4
  obtain ⟨rfl, rfl, rfl⟩ := trodAll_nil r5
  obtain rfl : args = #[v0, v1, v2, v3, v4, v5] := by cases args; simp_all
  obtain ⟨rfl, rfl⟩ := trodVars_none hV
  have k0 := h0
  have k1 := h1
  have k4 := h4
  have k5 := h5
  have lt0 : ∀ x ∈ p0, x.block < W.heap.size := by obtain ⟨m, hm⟩ := k0; exact DataW.trod_lt m _ _ _ hm
  have lt1 : ∀ x ∈ p1, x.block < W.heap.size := by obtain ⟨m, hm⟩ := k1; exact DataW.trod_lt m _ _ _ hm
  have lt4 : ∀ x ∈ p4, x.block < W.heap.size := by obtain ⟨m, hm⟩ := k4; exact DataW.trod_lt m _ _ _ hm
  have lt5 : ∀ x ∈ p5, x.block < W.heap.size := by obtain ⟨m, hm⟩ := k5; exact DataW.trod_lt m _ _ _ hm
  obtain ⟨c, rfl, hc64⟩ := cfg_of (hval 0 44 v0 rfl rfl) h0
  obtain ⟨a1, len1, cap1, rfl⟩ := okWide_slice Try.underlying45 (hval 1 45 v1 rfl rfl)
  obtain ⟨conn, rfl, rfl, rfl, w2⟩ := open_int Try.underlying3 (hval 2 3 v2 rfl rfl) h2
  obtain ⟨s, rfl, rfl, rfl, w3⟩ := open_string Try.underlying9 (hval 3 9 v3 rfl rfl) h3
  obtain ⟨a4, len4, cap4, rfl⟩ := okWide_slice Try.underlying33 (hval 4 33 v4 rfl rfl)
  obtain ⟨a5, len5, cap5, rfl⟩ := okWide_slice Try.underlying45 (hval 5 45 v5 rfl rfl)
  obtain ⟨X, hX, hX64, hXs⟩ := steps_of h1
  obtain ⟨Y, hY, hY64, hYs⟩ := steps_of h5
  obtain ⟨P, hP, hlen4⟩ := ints_of h4
  clear hA0
  simp only [List.append_nil] at hW' hk
  have hb : Rows.uptoBulkAll _ ≤ 1048576 := of_decide_eq_true hk
  have e : s.data.toList.length = s.size := by rw [Array.length_toList]; rfl
  simp only [Rows.uptoBulkAll, Rows.uptoBulk] at hb
  refine (chunks_any c hc64 a1 len1 cap1 X conn (wf_bd w2) s (by omega) a4 len4 cap4 P a5 len5 cap5 Y W hX hX64 hP hlen4 hY hY64 (by omega)).mono fun e W' ⟨he, bel⟩ => ?_
  subst he
  exact ⟨_, rfl, _, _, _, [], _, [], hW', trodAll_mk1 (shut_bool Try.underlying4 _), (trodAll_cons_mk (Below.trod laidOut (by kernel_rfl) (of_decide_eq_true (by kernel_rfl)) k0 bel lt0) (trodAll_cons_mk (Below.trod laidOut (by kernel_rfl) (of_decide_eq_true (by kernel_rfl)) k1 bel lt1) (trodAll_cons_mk (shut_int Try.underlying3 w2) (trodAll_cons_mk (shut_string Try.underlying9 w3) (trodAll_cons_mk (Below.trod laidOut (by kernel_rfl) (of_decide_eq_true (by kernel_rfl)) k4 bel lt4) (trodAll_cons_mk (Below.trod laidOut (by kernel_rfl) (of_decide_eq_true (by kernel_rfl)) k5 bel lt5) trodAll_mk0)))))), rfl, bel.frame _, fun h => by cases h⟩

set_option maxRecDepth 100000 in
theorem lifted (os : Os) (started : os.Started) (H : Type) (enc : TypeId × Value → H) (F : Stop.Interp) :
    ReturnsInHanded {} Try.checked os 5 .any ((Rows.OpenSpec.upto Rows.chunksSpec).pre6 enc Try.prog Try.f5 Rows.chunksUptoRow.domain false) (((Rows.OpenSpec.upto Rows.chunksSpec).at F).post enc Try.prog Try.f5 false true false false) := by
  refine returnsInHanded_of_cond (C := Try.checked) (s := Rows.OpenSpec.upto Rows.chunksSpec) (k := Rows.uptoSmall) rfl own started (by kernel_rfl) Try.func5
    (OpenSpec.witness (enc := enc) (C := Try.checked) (s := Rows.OpenSpec.upto Rows.chunksSpec) (k := Rows.uptoSmall) rfl false ⟨#[], #[.agg #[.int .i64 0, .bool false, .int .i64 0, .int .i64 0, .int .i64 0, .int .i64 0, .int .i64 0], .slice none 0 0, .int .i64 0, .string ⟨#[]⟩, .slice none 0 0, .slice none 0 0], []⟩ 8 (by kernel_rfl) (by kernel_rfl) (by kernel_rfl)
      (x := ([.agg [.lit (.int .i64 0), .lit (.bool false), .lit (.int .i64 0), .lit (.int .i64 0), .lit (.int .i64 0), .lit (.int .i64 0), .lit (.int .i64 0)], .nil, .lit (.int .i64 0), .lit (.string []), .nil, .nil], [], [])) (by kernel_rfl) rfl (by kernel_rfl)) ?_
  intro W base args ds gs before hval hW _ hk _
  exact contract H enc W base args ds gs before hval hW hk

set_option maxRecDepth 100000 in
theorem proved : Rows.ChunksUptoSaid :=
  OpenClaim.holds_of_cond 5 Try.f5 rfl rfl rfl rfl rfl rfl rfl ⟨rfl, rfl, rfl, rfl, rfl⟩ rfl rfl rfl rfl rfl (by kernel_rfl) Try.func5 (by kernel_rfl)
    (of_decide_eq_true (by kernel_rfl)) (by unfold Func.isWrapper; first | (rw [if_pos (by decide +kernel)]; kernel_rfl) | (rw [if_neg (by decide +kernel)]; exact ⟨rfl, rfl⟩))
    (fun os started H enc _ F => lifted os started H enc F)
#print axioms proved
end Go.Proofs.Ytlafkpaljibonaa.chunks
