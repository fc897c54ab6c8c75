import Derived.Test.YtlafkpaljibonaaK2
import Derived.Test.YtlafkpaljibonaaY
namespace Go.Proofs.Ytlafkpaljibonaa
open Go.RowKit

/-- A slice of records that came in. -/
def IsRecs (w : World) (a : Option Addr) (len : Nat) (R : Nat → Rec) : Prop :=
  len = 0 ∨ ∃ b off, a = some ⟨b, off, none⟩ ∧ b < w.heap.size ∧ ∀ k, k < len →
    w.cell? ⟨b, off + k * 3, none⟩ = some (.int .i64 (R k).1) ∧ w.cell? ⟨b, off + k * 3 + 1, none⟩ = some (.int .i64 (R k).2.1) ∧ w.cell? ⟨b, off + k * 3 + 2, none⟩ = some (.string (R k).2.2) ∧
    (-9223372036854775808 ≤ (R k).1 ∧ (R k).1 ≤ 9223372036854775807) ∧ (-9223372036854775808 ≤ (R k).2.1 ∧ (R k).2.1 ≤ 9223372036854775807)

/-- A slice of integers that came in. -/
def IsInts (w : World) (a : Option Addr) (len : Nat) (P : Nat → Int) : Prop :=
  len = 0 ∨ ∃ b off, a = some ⟨b, off, none⟩ ∧ b < w.heap.size ∧ ∀ k, k < len → w.cell? ⟨b, off + k, none⟩ = some (.int .i64 (P k)) ∧ (-9223372036854775808 ≤ P k ∧ P k ≤ 9223372036854775807)

def shR (r : Rec) : Rec := (shK r.1, shI r.2.1, shC r.2.2)

theorem shC_size (c : ByteArray) : (shC c).size ≤ 200 := by
  unfold shC shortB
  split
  · rw [ByteArray.size_extract]; omega
  · omega

theorem shR_good (r : Rec) (p : List Int) (hp : p.length ≤ 7) : Good (shR r) p := by
  have h1 := kindAt_ok (pickI r.1 5)
  have h2 := pickI_bd r.2.1 65535 (by omega)
  have h3 := shC_size r.2.2
  refine ⟨?_, hp⟩
  unfold allowedB shR shK shI
  simp [h1]
  omega

/-- The padding of the record number j. -/
def padN (n : Nat) (P : Nat → Int) (j : Nat) : Nat := if j < n then (pickI (P j) 8).toNat else 0

theorem padN_le (n : Nat) (P : Nat → Int) (j : Nat) : padN n P j ≤ 7 := by
  unfold padN
  split
  · have := pickI_bd (P j) 8 (by omega); omega
  · omega

def recsTo (R : Nat → Rec) (n : Nat) (P : Nat → Int) (m : Nat) : List (Rec × List Int) := (List.range m).map fun j => (shR (R j), padL (padN n P j))

theorem recsTo_succ (R : Nat → Rec) (n : Nat) (P : Nat → Int) (m : Nat) : recsTo R n P (m + 1) = recsTo R n P m ++ [(shR (R m), padL (padN n P m))] := by
  simp [recsTo, List.range_succ]
theorem recsTo_length (R : Nat → Rec) (n : Nat) (P : Nat → Int) (m : Nat) : (recsTo R n P m).length = m := by simp [recsTo]
theorem recsTo_good (R : Nat → Rec) (n : Nat) (P : Nat → Int) (m : Nat) : ∀ x ∈ recsTo R n P m, Good x.1 x.2 := by
  intro x hx
  simp only [recsTo, List.mem_map] at hx
  obtain ⟨j, _, rfl⟩ := hx
  exact shR_good _ _ (by rw [padL_length]; exact padN_le n P j)

theorem padN_lt {n : Nat} {P : Nat → Int} {j : Nat} (h : j < n) : (padN n P j : Int) = pickI (P j) 8 := by
  have := pickI_bd (P j) 8 (by omega)
  unfold padN; rw [if_pos h]; omega
theorem padN_ge {n : Nat} {P : Nat → Int} {j : Nat} (h : ¬ j < n) : padN n P j = 0 := by unfold padN; rw [if_neg h]

theorem encB_good {k i : Int} {c : ByteArray} (h : allowedB k i c.size = true) : encB k i c = enc k i c [] ∧ encE k i c = 0 := by simp [encB, encE, h]

/-- The facts that are carried through a round. -/
structure Rd (w W : World) (B m : Nat) (v : Value) (K I : Int) (C : ByteArray) (l : List Rec) : Prop where
  own : W.ownsRow w.heap.size 23 3 v m (rowOf l)
  c0 : W.cell? ⟨B, 0, none⟩ = some (.int .i64 K)
  c1 : W.cell? ⟨B, 1, none⟩ = some (.int .i64 I)
  c2 : W.cell? ⟨B, 2, none⟩ = some (.string C)
  bel : Below w.heap.size w W

theorem Rd.next {w W W' : World} {B m : Nat} {v : Value} {K I : Int} {C : ByteArray} {l : List Rec} (h : Rd w W B m v K I C l) (hb : Below W.heap.size W W') : Rd w W' B m v K I C l :=
  ⟨kept_below h.own hb, cell_later hb h.c0, cell_later hb h.c1, cell_later hb h.c2, h.bel.trans (hb.mono h.bel.size)⟩

theorem Rd.start {w W : World} {m : Nat} {v : Value} {K I : Int} {C : ByteArray} {l : List Rec} (own : W.ownsRow w.heap.size 23 3 v m (rowOf l)) (bel : Below w.heap.size w W) (T : TypeId) :
    Rd w (W.alloc (.cells #[.int .i64 K, .int .i64 I, .string C] T)) W.heap.size m v K I C l :=
  ⟨own.alloc _, by rw [World.cell?_alloc_at _ _ _ _ rfl]; rfl, by rw [World.cell?_alloc_at _ _ _ _ rfl]; rfl, by rw [World.cell?_alloc_at _ _ _ _ rfl]; rfl, bel.alloc bel.size _⟩

theorem encAll_append (a b : List (Rec × List Int)) : encAll (a ++ b) = encAll a ++ encAll b := by simp [encAll]
theorem encAll_one (x : Rec × List Int) : encAll [x] = encL x.1 x.2 := by simp [encAll]

theorem encAll_size (R : Nat → Rec) (n : Nat) (P : Nat → Int) (m : Nat) : (encAll (recsTo R n P m)).length ≤ 215 * m := by
  induction m with
  | zero => simp [recsTo, encAll]
  | succ m ih =>
    rw [recsTo_succ, encAll_append, encAll_one, List.length_append, encL_length, padL_length]
    have := padN_le n P m
    have := shC_size (R m).2.2
    simp only [shR]
    omega

def sTo (R : Nat → Rec) (n : Nat) (P : Nat → Int) (m : Nat) : ByteArray := strOfNums (encAll (recsTo R n P m))
def wantTo (R : Nat → Rec) (m : Nat) : List Rec := (List.range m).map fun j => shR (R j)

theorem wantTo_eq (R : Nat → Rec) (n : Nat) (P : Nat → Int) (m : Nat) : (recsTo R n P m).map (·.1) = wantTo R m := by simp [recsTo, wantTo]
theorem wantTo_succ (R : Nat → Rec) (m : Nat) : wantTo R (m + 1) = wantTo R m ++ [shR (R m)] := by simp [wantTo, List.range_succ]
theorem wantTo_length (R : Nat → Rec) (m : Nat) : (wantTo R m).length = m := by simp [wantTo]

theorem sTo_size (R : Nat → Rec) (n : Nat) (P : Nat → Int) (m : Nat) : (sTo R n P m).size ≤ 215 * m := by
  unfold sTo; rw [strOfNums_size]; exact encAll_size R n P m

theorem sTo_succ (R : Nat → Rec) (n : Nat) (P : Nat → Int) (m : Nat) :
    sTo R n P m ++ enc (shK (R m).1) (shI (R m).2.1) (shC (R m).2.2) (padL (padN n P m)) = sTo R n P (m + 1) := by
  rw [enc_encL]
  unfold sTo
  rw [strOfNums_append, recsTo_succ, encAll_append, encAll_one]
  rfl

theorem back_tail (R : Nat → Rec) (n : Nat) (P : Nat → Int) (m : Nat) (K I : Int) (C : ByteArray) (less : Int) (q : Nat) (hal : allowedB K I C.size = true) (hq : q ≤ 7) :
    decL (sTo R n P m ++ tailB K I C less q) = wantTo R m ∧ decN (sTo R n P m ++ tailB K I C less q) = (sTo R n P m).size ∧ decE (sTo R n P m ++ tailB K I C less q) = 0 := by
  have pb := pickI_bd less (8 + C.size + q : Nat) (by omega)
  have hg : Good (K, I, C) (padL q) := ⟨hal, by rw [padL_length]; exact hq⟩
  have hlen := encL_length (K, I, C) (padL q)
  rw [padL_length] at hlen
  unfold tailB
  rw [enc_encL, str_extract]
  simp only [List.drop_zero, Nat.sub_zero]
  generalize hM : (((8 + C.size + q : Nat) : Int) - 1 - pickI less (8 + C.size + q : Nat)).toNat = M
  have hc := code_tail (K, I, C) (padL q) hg M (by rw [hlen]; simp only; omega)
  unfold sTo
  rw [strOfNums_append]
  have := dec_all (recsTo R n P m) (recsTo_good R n P m) (List.take M (encL (K, I, C) (padL q))) 0 (fun f hf s i hl => dec_zero (by rw [hl]; exact hc))
  rw [wantTo_eq] at this
  rw [strOfNums_size]
  exact this

theorem back_wrong (R : Nat → Rec) (n : Nat) (P : Nat → Int) (m : Nat) (j : Int) :
    decL (sTo R n P m ++ wrongAt j) = wantTo R m ∧ decN (sTo R n P m ++ wrongAt j) = (sTo R n P m).size ∧ decE (sTo R n P m ++ wrongAt j) = 7 := by
  have hc := code_wrong j
  rw [wrong_str j] at hc ⊢
  generalize nums (wrongAt j) = t at *
  unfold sTo
  rw [strOfNums_append]
  have := dec_all (recsTo R n P m) (recsTo_good R n P m) t 7 (fun f hf s i hl => by
    obtain ⟨f', rfl⟩ : ∃ f', f = f' + 1 := ⟨f - 1, by omega⟩
    exact dec_one (by rw [hl]; exact hc))
  rw [wantTo_eq] at this
  rw [strOfNums_size]
  exact this

theorem tailB_size (K I : Int) (C : ByteArray) (less : Int) (q : Nat) (hC : C.size ≤ 200) (hq : q ≤ 7) : (tailB K I C less q).size ≤ 300 := by
  unfold tailB
  rw [ByteArray.size_extract, enc_size, padL_length]; omega

theorem wrongAt_size (j : Int) : (wrongAt j).size ≤ 300 := by
  unfold wrongAt
  repeat' split
  all_goals decide +kernel

set_option maxRecDepth 100000 in
set_option maxHeartbeats 4000000 in
theorem back_any (aL aP : Option Addr) (nL cL nP cP : Nat) (R : Nat → Rec) (P : Nat → Int) (less bad : Int) (w : World) (hL : IsRecs w aL nL R) (hP : IsInts w aP nP P) (mL : nL ≤ 9223372036854775807)
    (l0 : -9223372036854775808 ≤ less) (l1 : less ≤ 9223372036854775807) (b0 : -9223372036854775808 ≤ bad) (b1 : bad ≤ 9223372036854775807) :
    Calls Try.prog 4 #[.slice aL nL cL, .slice aP nP cP, .int .i64 less, .int .i64 bad] w fun e w' => e = .returned (.bool true) ∧ Below w.heap.size w w' := by
  obtain ⟨i0, hi, hz0, hz1, hz2⟩ := info_parts info23
  go_enter Try.func4, Try.ntmps4
  go_wp2
  go_loopw [9, 10, 11] (fun s v i w' => ∃ m : Nat, m ≤ 50 ∧ m ≤ nL ∧ i = .int .i64 m ∧ s = .string (sTo R nP P m) ∧ w'.ownsRow w.heap.size 23 3 v m (rowOf (wantTo R m)) ∧ Below w.heap.size w w') (fun _ _ i _ => 50 - (intOf i).toNat)
  case atStart => exact ⟨0, by omega, by omega, rfl, rfl, World.ownsRow_nil _ _ _ _, Below.refl _ _⟩
  case round =>
    obtain ⟨m, hm, hmL, rfl, rfl, hown, hbel⟩ := hrel
    have hbase := hbel.size
    by_cases hlt : m < nL ∧ m < 50
    · obtain ⟨hlt1, hlt2⟩ := hlt
      rcases hL with hL | ⟨b, off, rfl, hb, hcells⟩
      · omega
      obtain ⟨q0, q1, q2, qk, qi⟩ := hcells m hlt1
      have r0 : wr.cell? ⟨b, off + m * 3, none⟩ = some (.int .i64 (R m).1) := by rw [hbel.cell hb]; exact q0
      have r1 : wr.cell? ⟨b, off + m * 3 + 1, none⟩ = some (.int .i64 (R m).2.1) := by rw [hbel.cell hb]; exact q1
      have r2 : wr.cell? ⟨b, off + m * 3 + 2, none⟩ = some (.string (R m).2.2) := by rw [hbel.cell hb]; exact q2
      clear q0 q1 q2 hcells
      have hlt1' : (m : Int) < (nL : Int) := by omega
      have hlt2' : (m : Int) < 50 := by omega
      go_wp2_with fail
      refine (shaped_any (R m).1 (R m).2.1 (R m).2.2 _ qk.1 qk.2 qi.1 qi.2).mono ?_
      rintro e w1 ⟨rfl, hb1⟩
      have hgood := shR_good (R m) (padL (padN nP P m)) (by rw [padL_length]; exact padN_le nP P m)
      have hal : allowedB (shK (R m).1) (shI (R m).2.1) (shC (R m).2.2).size = true := hgood.al
      obtain ⟨eb1, eb2⟩ := encB_good hal
      have hsucc := sTo_succ R nP P m
      have hwant := wantTo_succ R m
      have hpl := padN_le nP P m
      have hsz := sTo_size R nP P m
      have hwl := wantTo_length R m
      rw [show shR (R m) = (shK (R m).1, shI (R m).2.1, shC (R m).2.2) from rfl] at hwant
      clear hgood
      generalize shK (R m).1 = K at *
      generalize shI (R m).2.1 = I at *
      generalize shC (R m).2.2 = C at *
      obtain ⟨-, k1, k6, i1, i2, c1⟩ := allowedB_bd hal
      have rd := Rd.start (K := K) (I := I) (C := C) (kept_below hown hb1) (hbel.trans (hb1.mono hbase)) 23
      have hbs := hb1.size
      clear hown hb1
      have HE1 : Hid _ := eb1
      have HE2 : Hid _ := eb2
      have HS : Hid _ := hsucc
      have HW : Hid _ := hwant
      have HWL : Hid _ := hwl
      have HAL : Hid _ := hal
      clear eb1 eb2 hsucc hwant hwl hal
      have hpw : ∀ wx, Calls Try.prog 16 #[.int .i64 K, .int .i64 I, .string C, .int .i64 (padN nP P m)] wx fun r w' => r = .returned (.string (enc K I C (padL (padN nP P m)))) ∧ Below wx.heap.size wx w' := fun wx => bytes_any K I C (padN nP P m) wx ⟨k1, k6⟩ ⟨i1, i2⟩ c1 hpl
      have HB : Hid _ := hpw
      have hesz := enc_size K I C (padL (padN nP P m))
      rw [padL_length] at hesz
      clear hpw
      -- both ways to the padding come to one form
      by_cases hp : m < nP
      · rcases hP with hP | ⟨pb, po, rfl, hpb, hints⟩
        · omega
        obtain ⟨z0, zb⟩ := hints m hp
        have y0 : (w1.alloc (.cells #[.int .i64 K, .int .i64 I, .string C] 23)).cell? ⟨pb, po + m, none⟩ = some (.int .i64 (P m)) := by rw [rd.bel.cell hpb]; exact z0
        clear hints z0
        have hp' : (m : Int) < (nP : Int) := by omega
        go_wp2_with fail
        refine (pick_any (P m) 8 _ zb.1 zb.2 (by omega) (by omega)).mono ?_
        rintro e w' ⟨rfl, rfl⟩
        rw [← padN_lt hp]
        go_wp2_with fail
        refine (fEncode_any K I C _).mono ?_
        rintro e w2 ⟨rfl, g2⟩
        rw [HE1.out, HE2.out]
        have rd2 := rd.next g2
        clear rd g2
        obtain ⟨own2, x0, x1, x2, bel2⟩ := rd2
        have rd2 : Hid (Rd w w2 w1.heap.size m u10 K I C (wantTo R m)) := ⟨own2, x0, x1, x2, bel2⟩
        clear own2 bel2
        go_wp2_with fail
        refine (bytes_any K I C 0 _ ⟨k1, k6⟩ ⟨i1, i2⟩ c1 (by omega)).mono ?_
        rintro e w3 ⟨rfl, g3⟩
        rw [show padL 0 = [] from rfl]
        have rd3 := rd2.out.next g3
        clear rd2 g3 x0 x1 x2
        obtain ⟨own3, x0, x1, x2, bel3⟩ := rd3
        have rd3 : Hid (Rd w w3 w1.heap.size m u10 K I C (wantTo R m)) := ⟨own3, x0, x1, x2, bel3⟩
        clear own3 bel3
        go_wp2_with fail
        refine (HB.out _).mono ?_
        rintro e w4 ⟨rfl, g4⟩
        have rd4 := rd3.out.next g4
        clear rd3 g4 x0 x1 x2
        obtain ⟨own4, x0, x1, x2, bel4⟩ := rd4
        have sz4 := bel4.size
        generalize enc K I C (padL (padN nP P m)) = E at *
        go_wp2_with (at_builtin; refine wpList_append_own _ rfl _ _ 32 rfl w.heap.size 23 i0 (.agg #[.int .i64 0, .int .i64 0, .string ⟨#[]⟩]) 3 32 Try.underlying32 hi hz0 hz1 hz2 rfl (by omega) u10 m (rowOf (wantTo R m)) rfl (own4.alloc _) ⟨w4.heap.size, 0, none⟩ 1 1 (rcells (K, I, C)) rfl rfl (news_rec _ _ (by simp) (K, I, C) _) (one_rec (K, I, C)) (by unfold maxLen; omega) (by omega) (by simp; omega) ?_)
        intro v' w5 own5 hgrow _
        go_wp2
        refine ⟨⟨m + 1, by omega, by omega, by go_num, by rw [← HS.out], ?_, ?_⟩, by simp [intOf]; omega⟩
        · rw [HW.out, rowOf_append, rowOf_one]; exact own5
        · refine (bel4.alloc (by omega) _).grown hgrow (by simp; omega) ?_
          intro b' hbk
          exact (own4.lt b' hbk).1
      · rw [padN_ge hp] at HB HS hesz
        go_wp2_with fail
        refine (fEncode_any K I C _).mono ?_
        rintro e w2 ⟨rfl, g2⟩
        rw [HE1.out, HE2.out]
        have rd2 := rd.next g2
        clear rd g2
        obtain ⟨own2, x0, x1, x2, bel2⟩ := rd2
        have rd2 : Hid (Rd w w2 w1.heap.size m u10 K I C (wantTo R m)) := ⟨own2, x0, x1, x2, bel2⟩
        clear own2 bel2
        go_wp2_with fail
        refine (bytes_any K I C 0 _ ⟨k1, k6⟩ ⟨i1, i2⟩ c1 (by omega)).mono ?_
        rintro e w3 ⟨rfl, g3⟩
        rw [show padL 0 = [] from rfl]
        have rd3 := rd2.out.next g3
        clear rd2 g3 x0 x1 x2
        obtain ⟨own3, x0, x1, x2, bel3⟩ := rd3
        have rd3 : Hid (Rd w w3 w1.heap.size m u10 K I C (wantTo R m)) := ⟨own3, x0, x1, x2, bel3⟩
        clear own3 bel3
        go_wp2_with fail
        refine (HB.out _).mono ?_
        rintro e w4 ⟨rfl, g4⟩
        have rd4 := rd3.out.next g4
        clear rd3 g4 x0 x1 x2
        obtain ⟨own4, x0, x1, x2, bel4⟩ := rd4
        have sz4 := bel4.size
        generalize enc K I C (padL 0) = E at *
        go_wp2_with (at_builtin; refine wpList_append_own _ rfl _ _ 32 rfl w.heap.size 23 i0 (.agg #[.int .i64 0, .int .i64 0, .string ⟨#[]⟩]) 3 32 Try.underlying32 hi hz0 hz1 hz2 rfl (by omega) u10 m (rowOf (wantTo R m)) rfl (own4.alloc _) ⟨w4.heap.size, 0, none⟩ 1 1 (rcells (K, I, C)) rfl rfl (news_rec _ _ (by simp) (K, I, C) _) (one_rec (K, I, C)) (by unfold maxLen; omega) (by omega) (by simp; omega) ?_)
        intro v' w5 own5 hgrow _
        go_wp2
        refine ⟨⟨m + 1, by omega, by omega, by go_num, by rw [← HS.out], ?_, ?_⟩, by simp [intOf]; omega⟩
        · rw [HW.out, rowOf_append, rowOf_one]; exact own5
        · refine (bel4.alloc (by omega) _).grown hgrow (by simp; omega) ?_
          intro b' hbk
          exact (own4.lt b' hbk).1
    · have hsz := sTo_size R nP P m
      have hwl := wantTo_length R m
      have HWL : Hid _ := hwl
      clear hwl hL hP
      have hcond : (nL : Int) ≤ (m : Int) ∨ ((m : Int) < (nL : Int) ∧ (50 : Int) ≤ (m : Int)) := by omega
      clear hlt
      rcases hcond with hcond | ⟨hcond, hcond2⟩
      all_goals
        go_wp2_with fail
        refine (shaped_any bad less ⟨#[97, 98]⟩ _ b0 b1 l0 l1).mono ?_
        rintro e w1 ⟨rfl, hb1⟩
        have hal : allowedB (shK bad) (shI less) (shC ⟨#[97, 98]⟩).size = true := (shR_good (bad, less, ⟨#[97, 98]⟩) [] (by simp)).al
        have rd := Rd.start (K := shK bad) (I := shI less) (C := shC ⟨#[97, 98]⟩) (kept_below hown hb1) (hbel.trans (hb1.mono hbase)) 23
        clear hown hb1 hbel
        generalize shK bad = K at *
        generalize shI less = I at *
        generalize shC ⟨#[97, 98]⟩ = C at *
        obtain ⟨-, k1, k6, i1, i2, c1⟩ := allowedB_bd hal
        obtain ⟨q, hq⟩ : ∃ q : Nat, pickI bad 8 = (q : Int) := ⟨(pickI bad 8).toNat, by have := pickI_bd bad 8 (by omega); omega⟩
        have hq7 : q ≤ 7 := by have := pickI_bd bad 8 (by omega); omega
        have cq := fun wx => pick_any bad 8 wx b0 b1 (by omega) (by omega)
        rw [hq] at cq
        have ct := fun wx => tail_any K I C less q wx ⟨k1, k6⟩ ⟨i1, i2⟩ c1 hq7 l0 l1
        have cw := fun wx => wrong_any bad wx b0 b1
        have ht1 := back_tail R nP P m K I C less q hal hq7
        have hw1 := back_wrong R nP P m (pickI bad 9)
        have ts := tailB_size K I C less q (by omega) hq7
        have wsz := wrongAt_size (pickI bad 9)
        generalize tailB K I C less q = T at *
        generalize wrongAt (pickI bad 9) = V at *
        have CQ : Hid _ := cq
        have CT : Hid _ := ct
        have CW : Hid _ := cw
        have HT : Hid _ := ht1
        have HV : Hid _ := hw1
        have HQ : Hid _ := hq
        clear cq ct cw ht1 hw1 hal hq
        generalize sTo R nP P m = SS at *
        have hss : SS.size ≤ 20000 := by omega
        have hcat : ¬ (9223372036854775807 < SS.size + T.size) := by omega
        have hcat2 : ¬ (9223372036854775807 < SS.size + V.size) := by omega
        clear hsz
        go_wp2_with fail
        generalize w1.alloc (.cells #[.int .i64 K, .int .i64 I, .string C] 23) = W1 at *
        refine wp_region_noPanic ?_
        refine wp_region_held_drew (S := fun w' => Rd w w' w1.heap.size m u10 K I C (wantTo R m)) (by kernel_rfl) ⟨rd.own, rd.c0, rd.c1, rd.c2, rd.bel.drew⟩ (fun hHeld => ?_)
        refine take_at (i := 0) (v := ?_) rfl (by kernel_rfl) (by kernel_rfl) (by kernel_rfl) (fun _ _ _ h => h) (by rfl) ?_ (by assumption) ?_
        rotate_left
        · (intro w hSw; go_simp; with_reducible rfl)
        simp only [Act.put, List.setIfInBounds_toArray, List.set_cons_zero, List.set_cons_succ]
        refine take_at (i := 1) (v := ?_) rfl (by kernel_rfl) (by kernel_rfl) (by kernel_rfl) (fun _ _ _ h => h) (by rfl) ?_ (by assumption) ?_
        rotate_left
        · (intro wx hSw; obtain ⟨-, x0, x1, x2, -⟩ := hSw; go_simp; with_reducible rfl)
        simp only [Act.put, List.setIfInBounds_toArray, List.set_cons_zero, List.set_cons_succ]
        refine take_at (i := 2) (v := ?_) rfl (by kernel_rfl) (by kernel_rfl) (by kernel_rfl) (fun _ _ _ h => h) (by rfl) ?_ (by assumption) ?_
        rotate_left
        · (intro w hSw; go_simp; with_reducible rfl)
        simp only [Act.put, List.setIfInBounds_toArray, List.set_cons_zero, List.set_cons_succ]
        refine take_at (i := 3) (v := ?_) rfl (by kernel_rfl) (by kernel_rfl) (by kernel_rfl) (fun _ _ _ h => h) (by rfl) ?_ (by assumption) ?_
        rotate_left
        · (intro w hSw; go_simp; with_reducible rfl)
        simp only [Act.put, List.setIfInBounds_toArray, List.set_cons_zero, List.set_cons_succ]
        refine only_at (i := 4) rfl (by kernel_rfl) (by rfl) (fun K' hK => ?_)
        go_simp
        refine (CQ.out _).mono ?_
        rintro e w' ⟨rfl, rfl⟩
        refine hK.out _ _ hHeld ?_
        clear hK K'
        refine only_at (i := 5) rfl (by kernel_rfl) (by rfl) (fun K' hK => ?_)
        go_simp
        refine (CT.out _).mono ?_
        rintro e w2 ⟨rfl, g2⟩
        have hHeld2 := Rd.next hHeld g2
        refine hK.out _ _ hHeld2 ?_
        clear hK K' hHeld g2 rd
        refine take_at (i := 6) (v := ?_) rfl (by kernel_rfl) (by kernel_rfl) (by kernel_rfl) (fun _ _ _ h => h) (by rfl) ?_ (by assumption) ?_
        rotate_left
        · (intro w hSw; go_simp; with_reducible rfl)
        simp only [Act.put, List.setIfInBounds_toArray, List.set_cons_zero, List.set_cons_succ]
        refine only_at (i := 7) rfl (by kernel_rfl) (by rfl) (fun K' hK => ?_)
        go_simp
        refine (fDecode_any (SS ++ T) _ (by rw [ByteArray.size_append]; omega)).mono ?_
        rintro e w3 ⟨va, rfl, owna, g3⟩
        rw [HT.out.1] at owna
        rw [HT.out.2.1, HT.out.2.2]
        have hHeld3 := Rd.next hHeld2 g3
        refine hK.out _ _ hHeld3 ?_
        clear hK K' hHeld2 g3
        refine take_at (i := 8) (v := ?_) rfl (by kernel_rfl) (by kernel_rfl) (by kernel_rfl) (fun _ _ _ h => h) (by rfl) ?_ (by assumption) ?_
        rotate_left
        · (intro w hSw; go_simp; with_reducible rfl)
        simp only [Act.put, List.setIfInBounds_toArray, List.set_cons_zero, List.set_cons_succ]
        refine take_at (i := 9) (v := ?_) rfl (by kernel_rfl) (by kernel_rfl) (by kernel_rfl) (fun _ _ _ h => h) (by rfl) ?_ (by assumption) ?_
        rotate_left
        · (intro w hSw; go_simp; with_reducible rfl)
        simp only [Act.put, List.setIfInBounds_toArray, List.set_cons_zero, List.set_cons_succ]
        refine take_at (i := 10) (v := ?_) rfl (by kernel_rfl) (by kernel_rfl) (by kernel_rfl) (fun _ _ _ h => h) (by rfl) ?_ (by assumption) ?_
        rotate_left
        · (intro w hSw; go_simp; with_reducible rfl)
        simp only [Act.put, List.setIfInBounds_toArray, List.set_cons_zero, List.set_cons_succ]
        refine take_at (i := 11) (v := ?_) rfl (by kernel_rfl) (by kernel_rfl) (by kernel_rfl) (fun _ _ _ h => h) (by rfl) ?_ (by assumption) ?_
        rotate_left
        · (intro w hSw; go_simp; with_reducible rfl)
        simp only [Act.put, List.setIfInBounds_toArray, List.set_cons_zero, List.set_cons_succ]
        refine only_at (i := 12) rfl (by kernel_rfl) (by rfl) (fun K' hK => ?_)
        go_simp
        refine hK.out _ _ hHeld3 ?_
        clear hK K'
        refine only_at (i := 13) rfl (by kernel_rfl) (by rfl) (fun K' hK => ?_)
        go_simp
        refine hK.out _ _ hHeld3 ?_
        clear hK K'
        refine only_at (i := 14) rfl (by kernel_rfl) (by rfl) (fun K' hK => ?_)
        go_simp
        refine hK.out _ _ hHeld3 ?_
        clear hK K'
        refine wpAnyH_done (by kernel_rfl) ?_ _
        refine NoPanic.normal ?_
        obtain ⟨ownw, -, -, -, bel3⟩ := hHeld3
        rw [HWL.out] at owna
        go_wp2_with fail
        refine (CW.out _).mono ?_
        rintro e w4 ⟨rfl, g4⟩
        have ownw4 := kept_below ownw g4
        have owna4 := kept_below owna g4
        have bel4 := bel3.trans (g4.mono bel3.size)
        clear ownw owna bel3 g4
        go_wp2_with fail
        refine (fDecode_any (SS ++ V) _ (by rw [ByteArray.size_append]; omega)).mono ?_
        rintro e w5 ⟨vb, rfl, ownb, g5⟩
        rw [HV.out.1] at ownb
        rw [HV.out.2.1, HV.out.2.2]
        rw [HWL.out] at ownb
        have ownw5 := kept_below ownw4 g5
        have owna5 := kept_below owna4 g5
        have bel5 := bel4.trans (g5.mono bel4.size)
        clear ownw4 owna4 bel4 g5
        have hself : ((SS.size : Int) != (SS.size : Int)) = false := by simp
        go_wp2_with fail
        refine (same_own va u10 _ _ (wantTo R m) _ (by rw [HWL.out]; omega) (by rw [HWL.out]; exact owna5) (by rw [HWL.out]; exact ownw5)).mono ?_
        rintro e w6 ⟨rfl, n6, h6⟩
        have ownw6 : w6.ownsRow w.heap.size 23 3 u10 m (rowOf (wantTo R m)) := by rw [h6]; exact ownw5
        have ownb6 : w6.ownsRow w4.heap.size 23 3 vb m (rowOf (wantTo R m)) := by rw [h6]; exact ownb
        have bel6 : Below w.heap.size w w6 := by rw [h6]; exact below_drewN' bel5
        clear ownw5 owna5 ownb bel5 h6
        go_wp2_with fail
        refine (same_own vb u10 _ _ (wantTo R m) _ (by rw [HWL.out]; omega) (by rw [HWL.out]; exact ownb6) (by rw [HWL.out]; exact ownw6)).mono ?_
        rintro e w7 ⟨rfl, n7, h7⟩
        have bel7 : Below w.heap.size w w7 := by rw [h7]; exact below_drewN' bel6
        clear h7
        go_wp2
        go_ret
        exact ⟨rfl, bel7⟩
end Go.Proofs.Ytlafkpaljibonaa
