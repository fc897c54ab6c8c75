import Derived.Test.YtlafkpaljibonaaJ1
import Derived.Lib.AppendStr
import Derived.Laws.BytesArg
import Derived.Laws.IdiomStrings
import Derived.Deep.RegionWith
import Derived.Laws.StructEq
import Derived.Deep.RegionHeld3
namespace Go.Proofs.Ytlafkpaljibonaa
open Go.RowKit

def allowedB (k i n : Int) : Bool := isKindB k && decide (1 ≤ i) && decide (i ≤ 65535) && decide (n ≤ 200)

theorem isKindB_bd {k : Int} (h : isKindB k = true) : 1 ≤ k ∧ k ≤ 6 := by
  simp only [isKindB, Bool.or_eq_true, beq_iff_eq] at h; omega

theorem allowedB_bd {k i n : Int} (h : allowedB k i n = true) : isKindB k = true ∧ 1 ≤ k ∧ k ≤ 6 ∧ 1 ≤ i ∧ i ≤ 65535 ∧ n ≤ 200 := by
  simp only [allowedB, Bool.and_eq_true, decide_eq_true_eq] at h
  obtain ⟨⟨⟨h1, h2⟩, h3⟩, h4⟩ := h
  have := isKindB_bd h1
  exact ⟨h1, this.1, this.2, h2, h3, h4⟩

set_option maxRecDepth 100000 in
set_option maxHeartbeats 400000 in
theorem allowed_any (k i n : Int) (w : World) :
    Calls Try.prog 70 #[.int .i64 k, .int .i64 i, .int .i64 n] w fun r w' => r = .returned (.bool (allowedB k i n)) ∧ w' = w := by
  unfold allowedB
  cases hk : isKindB k
  all_goals
    go_enter Try.func70, Try.ntmps70
    go_wp2_with (go_at_call 94; refine (isKind_any _ _).mono ?_; rintro e w' ⟨rfl, rfl⟩; rw [hk])
    all_goals (go_ret; exact ⟨by simp [*] <;> omega, rfl⟩)

/-- The bytes of a string as numbers. -/
def nums (s : ByteArray) : List Int := s.data.toList.map fun b => (b.toNat : Int)

theorem strCells_nums (s : ByteArray) : Lib.strCells s = (nums s).map (Value.int .u8) := by
  simp [Lib.strCells, nums]

theorem nums_length (s : ByteArray) : (nums s).length = s.size := by
  rw [nums, List.length_map, Array.length_toList]; rfl

/-- A record as bytes, with its padding. -/
def enc (k i : Int) (c : ByteArray) (p : List Int) : ByteArray :=
  strOfNums ([1, k, i / 256, i % 256, 0, (c.size : Int), (p.length : Int), 0] ++ nums c ++ p)

theorem info5 : (Try.prog.info? 5).map (fun i => (i.zero, i.size, i.bytes)) = some (some (.int .u8 0), 1, 1) := by kernel_rfl

/-- 'string(b)' of a row of bytes that the call owns. -/
theorem convert_own (w : World) (base : Nat) (v : Value) (n : Nat) (xs : List Int) (h : w.ownsRow base 5 1 v n (xs.map (Value.int .u8))) :
    (convert 86 9 v).run Try.prog w = .ok (.string (strOfNums xs)) w := by
  obtain ⟨hl, hc⟩ := h
  rcases hc with ⟨rfl, rfl⟩ | ⟨g, cap, cur, rfl, hb, hg, hn, hm, hs, ht⟩
  · have : xs = [] := by cases xs <;> simp_all
    subst this
    exact run_convert_bytes_nil w 86 5 Try.underlying86 Try.underlying5 0 0 _ Try.underlying9
  · refine run_convert_bytes_arg w 86 5 Try.underlying86 Try.underlying5 g 0 n cap xs (by simpa using hl) ?_ _ Try.underlying9
    intro i hi
    rw [Nat.zero_add, cell_of_row w g i cur 5 (0, 0) hg]
    have h2 : cur.toList[i]? = (cur.toList.take (n * 1))[i]? := by rw [List.getElem?_take, if_pos (by omega)]
    have h3 : i < xs.length := by have := hl; simp at this; omega
    rw [← Array.getElem?_toList, h2, ht]
    simp [List.getElem?_map, List.getElem?_eq_getElem h3, List.getD]

/-- A row of bytes that the call has just laid. -/
theorem own_lit (W : World) (g : Nat) (hg : W.heap.size = g) (n : Nat) (xs : List Int) (arr : Array Value) (ha : arr.toList = xs.map (Value.int .u8)) (hn : xs.length = n) (hm : n ≤ 1000) :
    (W.alloc (.cells arr 5)).ownsRow g 5 1 (.slice (some ⟨g, 0, none⟩) n n) n (xs.map (Value.int .u8)) := by
  subst hg
  rw [← ha]
  refine World.ownsRow_lit W arr n (Nat.le_refl _) (by unfold maxLen; omega) ?_
  rw [← Array.length_toList, ha, List.length_map]; omega

theorem conv_lit (W : World) (g : Nat) (hg : W.heap.size = g) (n : Nat) (xs : List Int) (arr : Array Value) (ha : arr.toList = xs.map (Value.int .u8)) (hn : xs.length = n) (hm : n ≤ 1000) :
    (convert 86 9 (.slice (some ⟨g, 0, none⟩) n n)).run Try.prog (W.alloc (.cells arr 5)) = .ok (.string (strOfNums xs)) (W.alloc (.cells arr 5)) :=
  convert_own _ g _ n xs (own_lit W g hg n xs arr ha hn hm)

theorem strOfNums_append (a b : List Int) : strOfNums a ++ strOfNums b = strOfNums (a ++ b) := by
  simp only [strOfNums, List.map_append]
  apply ByteArray.ext
  simp

theorem strOfNums_nums (c : ByteArray) : strOfNums (nums c) = c := by
  apply ByteArray.ext
  simp [strOfNums, nums, Function.comp_def]

theorem enc_eq (k i : Int) (c : ByteArray) : strOfNums [1, k, i / 256, i % 256, 0, (c.size : Int), 0, 0] ++ c = enc k i c [] := by
  have h := strOfNums_append [1, k, i / 256, i % 256, 0, (c.size : Int), 0, 0] (nums c)
  rw [strOfNums_nums] at h
  rw [h]; simp [enc]

theorem grown_own {w w' : World} {v : Value} (hg : w.grownBy w' v.ownBlock) {B : Nat} (hB : B ≤ w.heap.size) (hv : ∀ k, v.ownBlock = some k → B ≤ k) : Below B w w' :=
  (Below.refl B w).grown hg hB hv

set_option maxRecDepth 100000 in
set_option maxHeartbeats 400000 in
theorem encode_yes (k i : Int) (c : ByteArray) (w : World) (h : allowedB k i c.size = true) :
    Calls Try.prog 44 #[.agg #[.int .i64 k, .int .i64 i, .string c]] w fun r w' => r = .returned (.tuple #[.string (enc k i c []), .int .i64 0]) ∧ Below w.heap.size w w' := by
  obtain ⟨i0, hi, hz0, hz1, hz2⟩ := info_parts info5
  obtain ⟨-, h1, h2, h3, h4, h5⟩ := allowedB_bd h
  have hd : (c.size : Int) / 256 = 0 := by omega
  have hm : (c.size : Int) % 256 = c.size := by omega
  go_enter Try.func44, Try.ntmps44
  go_wp2_with (first | (go_at_call 70; refine (allowed_any _ _ _ _).mono ?_; rintro e w' ⟨rfl, rfl⟩; rw [h]) | (at_builtin; refine Lib.wpList_append_own_string _ rfl _ _ 86 9 rfl (w.heap.size + 1) 5 i0 Try.underlying86 Try.underlying9 hi hz0 hz1 hz2 _ 8 ([1, k, i / 256, i % 256, 0, (c.size : Int), 0, 0].map (Value.int .u8)) rfl ?hown c rfl ?c3 ?c4 ?c5 ?_))
  case hown => exact own_lit (w.alloc _) (w.heap.size + 1) (by simp) 8 _ _ rfl rfl (by omega)
  case c3 => unfold maxLen; omega
  case c4 => omega
  case c5 => simp
  intro v' w2 hown hgrow _
  have hcv := convert_own w2 _ v' _ ([1, k, i / 256, i % 256, 0, (c.size : Int), 0, 0] ++ nums c) (by rw [List.map_append, ← strCells_nums]; exact hown)
  go_wp2
  go_ret2
  refine ⟨by simp [enc], ?_⟩
  refine (((Below.refl _ _).alloc (Nat.le_refl _) _).alloc (by simp) _).trans ((grown_own hgrow (B := w.heap.size) (by simp; omega) ?_))
  intro k hk
  simp [Value.ownBlock] at hk
  omega

set_option maxRecDepth 100000 in
set_option maxHeartbeats 400000 in
theorem encode_no (k i : Int) (c : ByteArray) (w : World) (h : allowedB k i c.size = false) :
    Calls Try.prog 44 #[.agg #[.int .i64 k, .int .i64 i, .string c]] w fun r w' => r = .returned (.tuple #[.string ByteArray.empty, .int .i64 7]) ∧ Below w.heap.size w w' := by
  go_enter Try.func44, Try.ntmps44
  go_wp2_with (go_at_call 70; refine (allowed_any _ _ _ _).mono ?_; rintro e w' ⟨rfl, rfl⟩; rw [h])
  go_ret2
  exact ⟨rfl, (Below.refl _ _).alloc (Nat.le_refl _) _⟩

/-- What Encode answers: the bytes, and the error. -/
def encB (k i : Int) (c : ByteArray) : ByteArray := if allowedB k i c.size then enc k i c [] else ByteArray.empty
def encE (k i : Int) (c : ByteArray) : Int := if allowedB k i c.size then 0 else 7

theorem encode_any (k i : Int) (c : ByteArray) (w : World) :
    Calls Try.prog 44 #[.agg #[.int .i64 k, .int .i64 i, .string c]] w fun r w' => r = .returned (.tuple #[.string (encB k i c), .int .i64 (encE k i c)]) ∧ Below w.heap.size w w' := by
  cases h : allowedB k i c.size
  · simpa [encB, encE, h] using encode_no k i c w h
  · simpa [encB, encE, h] using encode_yes k i c w h

set_option maxRecDepth 100000 in
set_option maxHeartbeats 400000 in
theorem fEncode_any (k i : Int) (c : ByteArray) (w : World) :
    Calls Try.prog 10 #[.agg #[.int .i64 k, .int .i64 i, .string c]] w fun r w' => r = .returned (.tuple #[.string (encB k i c), .int .i64 (encE k i c)]) ∧ Below w.heap.size w w' := by
  go_enter Try.func10, Try.ntmps10
  go_wp2_with (go_at_call 44; refine (encode_any _ _ _ _).mono ?_; rintro e w' ⟨rfl, hb⟩)
  go_ret2
  exact ⟨rfl, ((Below.refl _ _).alloc (Nat.le_refl _) _).trans (hb.mono (by simp))⟩

set_option maxRecDepth 100000 in
set_option maxHeartbeats 800000 in
theorem refEncode_yes (k i : Int) (c : ByteArray) (w : World) (h : allowedB k i c.size = true) :
    Calls Try.prog 11 #[.agg #[.int .i64 k, .int .i64 i, .string c]] w fun r w' => r = .returned (.tuple #[.string (enc k i c []), .int .i64 0]) ∧ Below w.heap.size w w' := by
  obtain ⟨h0, h1, h2, h3, h4, h5⟩ := allowedB_bd h
  have hm : (c.size : Int) % 256 = c.size := by omega
  have hcv := conv_lit (w.alloc (.cells #[.int .i64 k, .int .i64 i, .string c] 23)) (w.heap.size + 1) (by simp) 8 [1, k, i / 256, i % 256, 0, (c.size : Int), 0, 0] #[.int .u8 1, .int .u8 k, .int .u8 (i / 256), .int .u8 (i % 256), .int .u8 0, .int .u8 c.size, .int .u8 0, .int .u8 0] rfl rfl (by omega)
  have hsz : (strOfNums [1, k, i / 256, i % 256, 0, (c.size : Int), 0, 0]).size = 8 := by simp [strOfNums_size]
  go_enter Try.func11, Try.ntmps11
  go_wp2_with (go_at_call 45; refine (refIsKind_any _ _).mono ?_; rintro e w' ⟨rfl, rfl⟩; rw [h0])
  go_ret2
  refine ⟨?_, ((Below.refl _ _).alloc (Nat.le_refl _) _).alloc (by simp) _⟩
  rw [enc_eq]; rfl

set_option maxRecDepth 100000 in
set_option maxHeartbeats 800000 in
theorem refEncode_no (k i : Int) (c : ByteArray) (w : World) (h : allowedB k i c.size = false) :
    Calls Try.prog 11 #[.agg #[.int .i64 k, .int .i64 i, .string c]] w fun r w' => r = .returned (.tuple #[.string ByteArray.empty, .int .i64 7]) ∧ Below w.heap.size w w' := by
  cases h0 : isKindB k
  · go_enter Try.func11, Try.ntmps11
    go_wp2_with (go_at_call 45; refine (refIsKind_any _ _).mono ?_; rintro e w' ⟨rfl, rfl⟩; rw [h0])
    go_ret2
    exact ⟨rfl, ((Below.refl _ _).alloc (Nat.le_refl _) _)⟩
  · have h1 : i < 1 ∨ 65535 < i ∨ 200 < (c.size : Int) := by
      simp only [allowedB, h0, Bool.true_and, Bool.and_eq_false_iff, decide_eq_false_iff_not] at h
      omega
    clear h
    by_cases g1 : i < 1
    · go_enter Try.func11, Try.ntmps11
      go_wp2_with (go_at_call 45; refine (refIsKind_any _ _).mono ?_; rintro e w' ⟨rfl, rfl⟩; rw [h0])
      go_ret2
      exact ⟨rfl, ((Below.refl _ _).alloc (Nat.le_refl _) _)⟩
    · by_cases g2 : 65535 < i
      · go_enter Try.func11, Try.ntmps11
        go_wp2_with (go_at_call 45; refine (refIsKind_any _ _).mono ?_; rintro e w' ⟨rfl, rfl⟩; rw [h0])
        go_ret2
        exact ⟨rfl, ((Below.refl _ _).alloc (Nat.le_refl _) _)⟩
      · have g3 : 200 < (c.size : Int) := by omega
        clear h1
        go_enter Try.func11, Try.ntmps11
        go_wp2_with (go_at_call 45; refine (refIsKind_any _ _).mono ?_; rintro e w' ⟨rfl, rfl⟩; rw [h0])
        go_ret2
        exact ⟨rfl, ((Below.refl _ _).alloc (Nat.le_refl _) _)⟩

theorem refEncode_any (k i : Int) (c : ByteArray) (w : World) :
    Calls Try.prog 11 #[.agg #[.int .i64 k, .int .i64 i, .string c]] w fun r w' => r = .returned (.tuple #[.string (encB k i c), .int .i64 (encE k i c)]) ∧ Below w.heap.size w w' := by
  cases h : allowedB k i c.size
  · simpa [encB, encE, h] using refEncode_no k i c w h
  · simpa [encB, encE, h] using refEncode_yes k i c w h
end Go.Proofs.Ytlafkpaljibonaa

namespace Go.Proofs.Ytlafkpaljibonaa
open Go.RowKit

theorem firstW_lt (l : List Req) (k a : Nat) (h : firstW l k = some a) : k ≤ a ∧ a < k + l.length := by
  induction l generalizing k with
  | nil => simp [firstW] at h
  | cons r l ih =>
    simp only [firstW] at h
    cases hr : (r.stage == 1)
    · rw [hr] at h
      have := ih (k + 1) h
      simp; omega
    · rw [hr] at h
      simp only [cond_true, Option.some.injEq] at h
      simp; omega

def noReq : Req := ⟨0, 0, 0, ⟨#[]⟩⟩

/-- One slot is looked at: if it is Idle, the first that waits is leased to it. -/
def PM.leaseAt (m : PM) (k : Nat) : PM :=
  match m.fw with
  | some a => cond ((m.slot k).st == 2) (m.lease a k (m.req.getD a noReq)) m
  | none => m

def PM.leaseTo (m : PM) : Nat → PM
  | 0 => m
  | k + 1 => (m.leaseTo k).leaseAt k

def PM.leaseWaiting (m : PM) : PM := m.leaseTo 6
def PM.settle (m : PM) : PM := (cond m.set.dyn m m.startMissing).leaseWaiting

section
variable {o : Nat → Tag} {q : Nat} {w : World} {b : Nat} {m : PM} {sv : Nat → Value} {rv : Value}

set_option maxRecDepth 100000 in
set_option maxHeartbeats 2000000 in
theorem leaseWaiting_any (h : FMem o q w b m sv rv) :
    Calls Try.prog 92 #[.pointer (some ⟨b, 0, none⟩)] w fun r w' => r = .returned (.tuple #[]) ∧ FMem o q w' b m.leaseWaiting sv rv ∧ Fr q o w o w' := by
  unfold PM.leaseWaiting
  go_enter Try.func92, Try.ntmps92
  go_wp2
  go_loopw [5] (fun i w' => ∃ k : Nat, k ≤ 6 ∧ i = .int .i64 k ∧ FMem o q w' b (m.leaseTo k) sv rv ∧ Fr q o w o w') (fun i _ => 6 - (intOf i).toNat)
  case atStart => exact ⟨0, by omega, rfl, h, Fr.refl h.clean⟩
  case round =>
    obtain ⟨k, hk, rfl, hm, hfr⟩ := hrel
    clear h
    by_cases hlt : k < 6
    · have HS : Hid (m.leaseTo (k + 1) = (m.leaseTo k).leaseAt k) := rfl
      generalize m.leaseTo k = M at *
      have hcall : Hid (∀ w', FMem o q w' b M sv rv → Calls Try.prog 108 #[.pointer (some ⟨b, 0, none⟩)] w' fun r w'' => r = .returned (fwV M.fw) ∧ Below w'.heap.size w' w'') := fun w' h' => firstWaiting_any h'
      cases hfw : M.fw with
      | none =>
        have HS2 : Hid (m.leaseTo (k + 1) = M) := by have := HS.out; simp only [PM.leaseAt, hfw] at this; exact this
        rw [hfw] at hcall
        go_wp2_with fail
        refine (hcall.out _ hm).mono ?_
        rintro e w1 ⟨rfl, hb⟩
        have hm1 := hm.below hb
        unfold fwV
        go_wp2
        exact ⟨⟨k + 1, by omega, by go_num, by rw [HS2.out]; exact hm1, hfr.below hb⟩, by simp [intOf]; omega⟩
      | some a =>
        have ha : a < M.req.length := by have := firstW_lt _ _ _ hfw; omega
        by_cases h2 : (M.slot k).st = 2
        · have HS2 : Hid (m.leaseTo (k + 1) = M.lease a k M.req[a]) := by
            have := HS.out; simp only [PM.leaseAt, hfw, h2, beq_self_eq_true, cond_true, List.getD, List.getElem?_eq_getElem ha, Option.getD_some] at this; exact this
          rw [hfw] at hcall
          go_wp2_with fail
          refine (hcall.out _ hm).mono ?_
          rintro e w1 ⟨rfl, hb⟩
          have hm1 := hm.below hb
          unfold fwV
          obtain ⟨c0, -⟩ := hm1.slotc hlt
          rw [h2] at c0
          clear h2 hfw
          go_wp2_with fail
          refine (lease_any hm1 a k ha hlt).mono ?_
          rintro e w2 ⟨rfl, hm2, fr2⟩
          go_wp2
          exact ⟨⟨k + 1, by omega, by go_num, by rw [HS2.out]; exact hm2, (hfr.below hb).trans fr2⟩, by simp [intOf]; omega⟩
        · have HS2 : Hid (m.leaseTo (k + 1) = M) := by
            have := HS.out
            have h3 : ((M.slot k).st == 2) = false := by simpa using h2
            simp only [PM.leaseAt, hfw, h3, cond_false] at this; exact this
          rw [hfw] at hcall
          go_wp2_with fail
          refine (hcall.out _ hm).mono ?_
          rintro e w1 ⟨rfl, hb⟩
          have hm1 := hm.below hb
          unfold fwV
          obtain ⟨c0, -⟩ := hm1.slotc hlt
          clear hfw
          go_wp2
          exact ⟨⟨k + 1, by omega, by go_num, by rw [HS2.out]; exact hm1, hfr.below hb⟩, by simp [intOf]; omega⟩
    · have : k = 6 := by omega
      subst this
      go_wp2
      exact bodyPost_end (v := .tuple #[]) (by simp [results, Try.results92, go_sem]) rfl ⟨rfl, hm, hfr⟩

set_option maxRecDepth 100000 in
set_option maxHeartbeats 1000000 in
theorem settle_any (h : FMem o q w b m sv rv) :
    Calls Try.prog 65 #[.pointer (some ⟨b, 0, none⟩)] w fun r w' => r = .returned (.tuple #[]) ∧ FMem o q w' b m.settle sv rv ∧ Fr q o w o w' := by
  have hd := h.dync
  unfold PM.settle
  cases hdyn : m.set.dyn
  · rw [hdyn] at hd
    simp only [cond_false]
    clear hdyn
    go_enter Try.func65, Try.ntmps65
    go_wp2_with fail
    refine (startMissing_any h).mono ?_
    rintro e w1 ⟨rfl, hm1, fr1⟩
    clear hd
    go_wp2_with fail
    refine (leaseWaiting_any hm1).mono ?_
    rintro e w2 ⟨rfl, hm2, fr2⟩
    go_wp2
    exact bodyPost_end (v := .tuple #[]) (by simp [results, Try.results65, go_sem]) rfl ⟨rfl, hm2, fr1.trans fr2⟩
  · rw [hdyn] at hd
    simp only [cond_true]
    clear hdyn
    go_enter Try.func65, Try.ntmps65
    go_wp2_with fail
    refine (leaseWaiting_any h).mono ?_
    rintro e w2 ⟨rfl, hm2, fr2⟩
    go_wp2
    exact bodyPost_end (v := .tuple #[]) (by simp [results, Try.results65, go_sem]) rfl ⟨rfl, hm2, fr2⟩

def PM.sent_ (m : PM) (n : Int) : ByteArray := cond (isC n) (strOfNums (m.con n.toNat).sent) ⟨#[]⟩

set_option maxRecDepth 100000 in
set_option maxHeartbeats 1000000 in
theorem sent_any (h : FMem o q w b m sv rv) (n : Int) :
    Calls Try.prog 36 #[.pointer (some ⟨b, 0, none⟩), .int .i64 n] w fun r w' => r = .returned (.string (m.sent_ n)) ∧ w' = w := by
  unfold PM.sent_
  rcases isC_cases n with h0 | ⟨h0, k, hk, rfl⟩
  · simp only [h0, cond_false]
    go_enter Try.func36, Try.ntmps36
    go_wp2_with fail
    refine (isConnection_any _ _).mono ?_
    rintro e w1 ⟨rfl, rfl⟩
    rw [h0]
    go_wp2
    go_ret
    exact ⟨rfl, rfl⟩
  · simp only [h0, cond_true, Int.toNat_natCast]
    have h1 := h.sentv hk
    have hcv := convert_own w 0 (sv k) _ _ (h.sent k hk).1
    go_enter Try.func36, Try.ntmps36
    go_wp2_with fail
    refine (isConnection_any _ _).mono ?_
    rintro e w1 ⟨rfl, rfl⟩
    rw [h0]
    go_wp2
    go_ret
    exact ⟨rfl, rfl⟩

end
end Go.Proofs.Ytlafkpaljibonaa

namespace Go.Proofs.Ytlafkpaljibonaa
open Go.RowKit

def inB (n a b : Int) : Bool := decide (a ≤ n) && decide (n ≤ b)

theorem within_in (n a b : Int) (w : World) :
    Calls Try.prog 81 #[.int .i64 n, .int .i64 a, .int .i64 b] w fun r w' => r = .returned (.bool (inB n a b)) ∧ w' = w := within_any n a b w

theorem cfg_ok (c : Cfg) : c.ok = (inB c.ch 1 6 && inB c.bl 0 20 && (inB c.mr 0 1000 && inB c.tmo 0 1000) && (!c.dyn || (inB c.mn 1 c.ch && inB c.mx c.mn c.ch))) := by
  rw [Bool.eq_iff_iff]
  simp [Cfg.ok, inB]
  intro _ _ _ _ _ _ _ _
  constructor
  · rintro (h9 | h9)
    · exact .inl h9
    · right; omega
  · rintro (h9 | h9)
    · exact .inl h9
    · right; omega

set_option maxRecDepth 100000 in
set_option maxHeartbeats 4000000 in
theorem mayBe_any (c : Cfg) (w : World) :
    Calls Try.prog 73 #[c.val] w fun r w' => r = .returned (.bool c.ok) ∧ Below w.heap.size w w' := by
  rw [cfg_ok]
  obtain ⟨ch, dyn, mn, mx, mr, tmo, bl⟩ := c
  simp only [Cfg.val]
  generalize h1 : inB ch 1 6 = b1
  generalize h2 : inB bl 0 20 = b2
  generalize h3 : inB mr 0 1000 = b3
  generalize h4 : inB tmo 0 1000 = b4
  generalize h5 : inB mn 1 ch = b5
  generalize h6 : inB mx mn ch = b6
  have c1 : Hid (∀ w, Calls Try.prog 81 #[.int .i64 ch, .int .i64 1, .int .i64 6] w fun r w' => r = .returned (.bool b1) ∧ w' = w) := fun w => h1 ▸ within_in _ _ _ w
  have c2 : Hid (∀ w, Calls Try.prog 81 #[.int .i64 bl, .int .i64 0, .int .i64 20] w fun r w' => r = .returned (.bool b2) ∧ w' = w) := fun w => h2 ▸ within_in _ _ _ w
  have c3 : Hid (∀ w, Calls Try.prog 81 #[.int .i64 mr, .int .i64 0, .int .i64 1000] w fun r w' => r = .returned (.bool b3) ∧ w' = w) := fun w => h3 ▸ within_in _ _ _ w
  have c4 : Hid (∀ w, Calls Try.prog 81 #[.int .i64 tmo, .int .i64 0, .int .i64 1000] w fun r w' => r = .returned (.bool b4) ∧ w' = w) := fun w => h4 ▸ within_in _ _ _ w
  have c5 : Hid (∀ w, Calls Try.prog 81 #[.int .i64 mn, .int .i64 1, .int .i64 ch] w fun r w' => r = .returned (.bool b5) ∧ w' = w) := fun w => h5 ▸ within_in _ _ _ w
  have c6 : Hid (∀ w, Calls Try.prog 81 #[.int .i64 mx, .int .i64 mn, .int .i64 ch] w fun r w' => r = .returned (.bool b6) ∧ w' = w) := fun w => h6 ▸ within_in _ _ _ w
  clear h1 h2 h3 h4 h5 h6
  cases b1
  · skip
    go_enter Try.func73, Try.ntmps73
    go_wp2_with fail
    refine (c1.out _).mono ?_
    rintro e w' ⟨rfl, rfl⟩
    go_wp2
    go_ret
    exact ⟨by simp, (Below.refl _ _).alloc (Nat.le_refl _) _⟩
  · skip
    cases b2
    · skip
      go_enter Try.func73, Try.ntmps73
      go_wp2_with fail
      refine (c1.out _).mono ?_
      rintro e w' ⟨rfl, rfl⟩
      go_wp2_with fail
      refine (c2.out _).mono ?_
      rintro e w' ⟨rfl, rfl⟩
      go_wp2
      go_ret
      exact ⟨by simp, (Below.refl _ _).alloc (Nat.le_refl _) _⟩
    · skip
      cases b3
      · skip
        go_enter Try.func73, Try.ntmps73
        go_wp2_with fail
        refine (c1.out _).mono ?_
        rintro e w' ⟨rfl, rfl⟩
        go_wp2_with fail
        refine (c2.out _).mono ?_
        rintro e w' ⟨rfl, rfl⟩
        go_wp2_with fail
        refine (c3.out _).mono ?_
        rintro e w' ⟨rfl, rfl⟩
        go_wp2
        go_ret
        exact ⟨by simp, (Below.refl _ _).alloc (Nat.le_refl _) _⟩
      · skip
        cases b4
        · skip
          go_enter Try.func73, Try.ntmps73
          go_wp2_with fail
          refine (c1.out _).mono ?_
          rintro e w' ⟨rfl, rfl⟩
          go_wp2_with fail
          refine (c2.out _).mono ?_
          rintro e w' ⟨rfl, rfl⟩
          go_wp2_with fail
          refine (c3.out _).mono ?_
          rintro e w' ⟨rfl, rfl⟩
          go_wp2_with fail
          refine (c4.out _).mono ?_
          rintro e w' ⟨rfl, rfl⟩
          go_wp2
          go_ret
          exact ⟨by simp, (Below.refl _ _).alloc (Nat.le_refl _) _⟩
        · skip
          cases dyn
          · skip
            go_enter Try.func73, Try.ntmps73
            go_wp2_with fail
            refine (c1.out _).mono ?_
            rintro e w' ⟨rfl, rfl⟩
            go_wp2_with fail
            refine (c2.out _).mono ?_
            rintro e w' ⟨rfl, rfl⟩
            go_wp2_with fail
            refine (c3.out _).mono ?_
            rintro e w' ⟨rfl, rfl⟩
            go_wp2_with fail
            refine (c4.out _).mono ?_
            rintro e w' ⟨rfl, rfl⟩
            go_wp2
            go_ret
            exact ⟨by simp, (Below.refl _ _).alloc (Nat.le_refl _) _⟩
          · skip
            cases b5
            · skip
              go_enter Try.func73, Try.ntmps73
              go_wp2_with fail
              refine (c1.out _).mono ?_
              rintro e w' ⟨rfl, rfl⟩
              go_wp2_with fail
              refine (c2.out _).mono ?_
              rintro e w' ⟨rfl, rfl⟩
              go_wp2_with fail
              refine (c3.out _).mono ?_
              rintro e w' ⟨rfl, rfl⟩
              go_wp2_with fail
              refine (c4.out _).mono ?_
              rintro e w' ⟨rfl, rfl⟩
              go_wp2_with fail
              refine (c5.out _).mono ?_
              rintro e w' ⟨rfl, rfl⟩
              go_wp2
              go_ret
              exact ⟨by simp, (Below.refl _ _).alloc (Nat.le_refl _) _⟩
            · skip
              cases b6
              · skip
                go_enter Try.func73, Try.ntmps73
                go_wp2_with fail
                refine (c1.out _).mono ?_
                rintro e w' ⟨rfl, rfl⟩
                go_wp2_with fail
                refine (c2.out _).mono ?_
                rintro e w' ⟨rfl, rfl⟩
                go_wp2_with fail
                refine (c3.out _).mono ?_
                rintro e w' ⟨rfl, rfl⟩
                go_wp2_with fail
                refine (c4.out _).mono ?_
                rintro e w' ⟨rfl, rfl⟩
                go_wp2_with fail
                refine (c5.out _).mono ?_
                rintro e w' ⟨rfl, rfl⟩
                go_wp2_with fail
                refine (c6.out _).mono ?_
                rintro e w' ⟨rfl, rfl⟩
                go_wp2
                go_ret
                exact ⟨by simp, (Below.refl _ _).alloc (Nat.le_refl _) _⟩
              · skip
                go_enter Try.func73, Try.ntmps73
                go_wp2_with fail
                refine (c1.out _).mono ?_
                rintro e w' ⟨rfl, rfl⟩
                go_wp2_with fail
                refine (c2.out _).mono ?_
                rintro e w' ⟨rfl, rfl⟩
                go_wp2_with fail
                refine (c3.out _).mono ?_
                rintro e w' ⟨rfl, rfl⟩
                go_wp2_with fail
                refine (c4.out _).mono ?_
                rintro e w' ⟨rfl, rfl⟩
                go_wp2_with fail
                refine (c5.out _).mono ?_
                rintro e w' ⟨rfl, rfl⟩
                go_wp2_with fail
                refine (c6.out _).mono ?_
                rintro e w' ⟨rfl, rfl⟩
                go_wp2
                go_ret
                exact ⟨by simp, (Below.refl _ _).alloc (Nat.le_refl _) _⟩
end Go.Proofs.Ytlafkpaljibonaa

namespace Go.Proofs.Ytlafkpaljibonaa
open Go.RowKit

def zeroSlot : PSlot := ⟨0, false, 0, 0, 0, 0, ⟨#[]⟩⟩
/-- New's foreman, its first k slots laid. -/
def rawTo (c : Cfg) (k : Nat) : PM := ⟨c, 0, fun _ => ⟨false, ⟨#[]⟩, []⟩, [], fun i => if i < k then newSlot 0 else zeroSlot⟩
def rawPM (c : Cfg) : PM := ⟨c, 0, fun _ => ⟨false, ⟨#[]⟩, []⟩, [], fun _ => newSlot 0⟩
def newPM (c : Cfg) : PM := (rawPM c).settle
def nilV : Nat → Value := fun _ => .slice none 0 0

theorem rawTo_succ (c : Cfg) (k : Nat) : { rawTo c k with slot := upd (rawTo c k).slot k (newSlot 0) } = rawTo c (k + 1) := by
  simp only [rawTo, PM.mk.injEq, true_and]
  funext i
  simp only [upd]
  by_cases h1 : i = k
  · subst h1; simp
  · simp only [h1, if_false]
    by_cases h2 : i < k
    · simp [h2, show i < k + 1 from by omega]
    · simp [h2, show ¬ i < k + 1 from by omega]

theorem FMem.raw {o : Nat → Tag} {q : Nat} {w : World} (hc : Clean o w) (c : Cfg) (h6 : c.ch ≤ 6) :
    FMem (upd o w.heap.size (q, 1)) q (w.alloc (.cells (fcells (rawTo c 0) nilV (.slice none 0 0)).toArray 103)) w.heap.size (rawTo c 0) nilV (.slice none 0 0) := by
  refine ⟨?_, upd_same _ _ _, Blk.made w _ _, fun k hk => Row.nil _ _ _ _ _, Row.nil _ _ _ _ _, h6⟩
  intro g hg
  have h1 : w.heap.size + 1 ≤ g := by simpa using hg
  rw [upd_other _ _ (by omega)]
  exact hc g (by omega)

theorem Fr.made {o : Nat → Tag} {q : Nat} {w w' : World} (t : Tag) (hb : Below w.heap.size w w') (hc : Clean (upd o w.heap.size t) w') : Fr q o w (upd o w.heap.size t) w' :=
  ⟨hb.os, hb.tape, hb.output, hb.size, hc, fun g hg => upd_other _ _ (by omega), fun g hg _ => hb.block g hg⟩

section
variable {o : Nat → Tag} {q : Nat} {w : World} {b : Nat} {m : PM} {sv : Nat → Value} {rv : Value}

set_option maxRecDepth 100000 in
set_option maxHeartbeats 1000000 in
theorem new_no (c : Cfg) (w : World) (h : c.ok = false) :
    Calls Try.prog 49 #[c.val] w fun r w' => r = .returned (.tuple #[.pointer none, .int .i64 1]) ∧ Below w.heap.size w w' := by
  have hc : Hid (∀ w, Calls Try.prog 73 #[c.val] w fun r w' => r = .returned (.bool false) ∧ Below w.heap.size w w') := fun w => h ▸ mayBe_any c w
  unfold Cfg.val at *
  go_enter Try.func49, Try.ntmps49
  go_wp2_with fail
  refine (hc.out _).mono ?_
  rintro e w1 ⟨rfl, hb⟩
  go_wp2
  go_ret2
  exact ⟨rfl, ((Below.refl _ _).alloc (Nat.le_refl _) _).trans (hb.mono (by simp))⟩

set_option maxRecDepth 100000 in
set_option maxHeartbeats 2000000 in
theorem new_yes (c : Cfg) (w : World) (ho : Clean o w) (h : c.ok = true) :
    Calls Try.prog 49 #[c.val] w fun r w' => ∃ b o', r = .returned (.tuple #[.pointer (some ⟨b, 0, none⟩), .int .i64 0]) ∧ FMem o' q w' b (newPM c) nilV (.slice none 0 0) ∧ Fr q o w o' w' := by
  have hc : Hid (∀ w, Calls Try.prog 73 #[c.val] w fun r w' => r = .returned (.bool true) ∧ Below w.heap.size w w') := fun w => h ▸ mayBe_any c w
  have h6 : c.ch ≤ 6 := by simp only [Cfg.ok, Bool.and_eq_true, decide_eq_true_eq] at h; omega
  have hset : c = ⟨c.ch, c.dyn, c.mn, c.mx, c.mr, c.tmo, c.bl⟩ := rfl
  unfold Cfg.val at *
  clear hset
  go_enter Try.func49, Try.ntmps49
  go_wp2_with fail
  have hb0 : Below w.heap.size w (w.alloc (.cells #[.int .i64 c.ch, .bool c.dyn, .int .i64 c.mn, .int .i64 c.mx, .int .i64 c.mr, .int .i64 c.tmo, .int .i64 c.bl] 44)) := (Below.refl _ _).alloc (Nat.le_refl _) _
  have hk0 := Blk.made w 44 c.cells
  have e0 : (w.alloc (.cells c.cells.toArray 44)).heap.size = w.heap.size + 1 := by simp
  refine (hc.out _).mono ?_
  rintro e w1 ⟨rfl, hb⟩
  have hk1 := hk0.below hb
  have d0 := hk1.cell (k := 0) (u := .int .i64 c.ch) rfl
  have d1 := hk1.cell (k := 1) (u := .bool c.dyn) rfl
  have d2 := hk1.cell (k := 2) (u := .int .i64 c.mn) rfl
  have d3 := hk1.cell (k := 3) (u := .int .i64 c.mx) rfl
  have d4 := hk1.cell (k := 4) (u := .int .i64 c.mr) rfl
  have d5 := hk1.cell (k := 5) (u := .int .i64 c.tmo) rfl
  have d6 := hk1.cell (k := 6) (u := .int .i64 c.bl) rfl
  have hb1 : Below w.heap.size w w1 := hb0.trans (hb.mono (by simp))
  have ho1 : Clean o w1 := ho.le hb1.size
  clear hk0 hk1 hb0 hb
  go_wp2
  have hm0 := FMem.raw (q := q) ho1 c h6
  have fr0 := (Fr.of_below (q := q) ho hb1).trans (Fr.made (q := q) (w' := w1.alloc (.cells (fcells (rawTo c 0) nilV (.slice none 0 0)).toArray 103)) (q, 1) ((Below.refl w1.heap.size w1).alloc (Nat.le_refl _) _) hm0.clean)
  generalize ho2 : upd o w1.heap.size (q, 1) = o1 at *
  clear ho2
  go_loopw [12] (fun i w' => ∃ k : Nat, k ≤ 6 ∧ i = .int .i64 k ∧ FMem o1 q w' w1.heap.size (rawTo c k) nilV (.slice none 0 0) ∧ Fr q o w o1 w') (fun i _ => 6 - (intOf i).toNat)
  case atStart => exact ⟨0, by omega, rfl, hm0, fr0⟩
  case round =>
    obtain ⟨k, hk, rfl, hm, hfr⟩ := hrel
    clear d0 d1 d2 d3 d4 d5 d6 hm0 fr0
    by_cases hlt : k < 6
    · have hmd := hm.below (Below.refl _ _).drew
      go_wp2
      go_region_held3 (fun w' => True) (trivial) (first | (go_at_call 74; refine (newPlace_any _ _).mono ?_; rintro e w2 ⟨rfl, hb2⟩; have hm2 := hmd.below hb2; obtain ⟨d0, d1, d2, d3, d4, d5, d6⟩ := hm2.slotc hlt; have fz := hm2.frozen))
      go_wp2
      have fr2 : Fr q o w o1 w2 := hfr.trans ((Fr.of_below hm.clean (Below.refl _ _).drew).trans (Fr.of_below hmd.clean hb2))
      have hm3 := hm2.putSlot hlt (newSlot 0)
      rw [rawTo_succ] at hm3
      refine ⟨⟨k + 1, by omega, by go_num, hm3, ?_⟩, by simp [intOf]; omega⟩
      exact fr2.trans (hm2.fr_put hm3 (by simp [World.setCell]) (by simp [World.setCell]) (by simp [World.setCell]) (by simp [World.setCell]) (by intro g hg; repeat rw [Below.heap_setCell _ _ _ g (by simpa using hg)]))
    · have : k = 6 := by omega
      subst this
      go_wp2_with fail
      have hm6 : FMem o1 q wr w1.heap.size (rawPM c) nilV (.slice none 0 0) := ⟨hm.clean, hm.tag, hm.blk, hm.sent, hm.reqs, hm.few⟩
      refine (settle_any hm6).mono ?_
      rintro e w2 ⟨rfl, hm2, fr2⟩
      go_wp2
      go_ret2
      exact ⟨_, o1, rfl, hm2, hfr.trans fr2⟩

def keyCells (l : List (Int × Int)) : List Value := l.flatMap fun k => [.int .i64 k.1, .int .i64 k.2]
def PM.waits (m : PM) : List (Int × Int) := (m.req.filter fun r => r.stage == 1).map fun r => (r.conn, r.id)

theorem keyCells_append (a b : List (Int × Int)) : keyCells (a ++ b) = keyCells a ++ keyCells b := by simp [keyCells]
theorem keyCells_length (l : List (Int × Int)) : (keyCells l).length = l.length * 2 := by
  induction l with
  | nil => rfl
  | cons r l ih => simp [keyCells] at *; omega
theorem keyCells_one (l : List (Int × Int)) : ∀ u ∈ keyCells l, u.oneCell' = true := by
  intro u hu
  simp only [keyCells, List.mem_flatMap] at hu
  obtain ⟨r, _, hr⟩ := hu
  simp only [List.mem_cons, List.not_mem_nil, or_false] at hr
  rcases hr with rfl | rfl <;> rfl

theorem news_key (W : World) (g : Nat) (hg : W.heap.size = g) (x y : Int) (T : TypeId) : ∀ j u, (keyCells [(x, y)])[j]? = some u → (W.alloc (.cells #[.int .i64 x, .int .i64 y] T)).cell? ((⟨g, 0, none⟩ : Addr).add j) = some u := by
  subst hg
  exact World.news_of_block (heap_alloc_new W _)

theorem infoKey : (Try.prog.info? 109).map (fun i => (i.zero, i.size, i.bytes)) = some (some (.agg #[.int .i64 0, .int .i64 0]), 2, 16) := by kernel_rfl

set_option maxRecDepth 100000 in
set_option maxHeartbeats 2000000 in
theorem backlog_any (h : FMem o q w b m sv rv) (hmax : m.req.length ≤ 1000000000000) :
    Calls Try.prog 31 #[.pointer (some ⟨b, 0, none⟩)] w fun r w' => ∃ v, r = .returned v ∧ w'.ownsRow w.heap.size 109 2 v m.waits.length (keyCells m.waits) ∧ Below w.heap.size w w' := by
  obtain ⟨i0, hi, hz0, hz1, hz2⟩ := info_parts infoKey
  obtain ⟨ao, c, rfl, hn, hrow⟩ := h.list
  have h1 := h.reqv
  go_enter Try.func31, Try.ntmps31
  go_wp2
  go_loopw [3, 11] (fun v i w' => ∃ k : Nat, k ≤ m.req.length ∧ i = .int .i64 k ∧ w'.ownsRow w.heap.size 109 2 v (((m.req.take k).filter fun r => r.stage == 1).map fun r => (r.conn, r.id)).length (keyCells (((m.req.take k).filter fun r => r.stage == 1).map fun r => (r.conn, r.id))) ∧ Below w.heap.size w w') (fun _ i _ => m.req.length - (intOf i).toNat)
  case atStart => exact ⟨0, by omega, rfl, World.ownsRow_nil _ _ _ _, Below.refl _ _⟩
  case round =>
    obtain ⟨k, hk, rfl, hown, hb⟩ := hrel
    have hbase := hb.size
    by_cases hlt : k < m.req.length
    · obtain ⟨g, rfl, hg, -, -, c0, c1, c2, c3⟩ := hrow k hlt
      have hst := List.take_succ_eq_append_getElem hlt
      have HS : Hid _ := hst
      have hll : ((m.req.take k).filter fun r => r.stage == 1).length ≤ k := Nat.le_trans (List.length_filter_le _ _) (by rw [List.length_take]; omega)
      clear hst hrow
      rw [← hb.cell (by exact hg)] at c0 c1 c2 c3
      generalize hacc : (List.map (fun (r : Req) => (r.conn, r.id)) (List.filter (fun r => r.stage == 1) (List.take k m.req))) = acc at *
      have HA : Hid _ := hacc
      have hal : acc.length ≤ k := by rw [← hacc]; simpa using hll
      clear hacc hll
      generalize m.req[k] = r at *
      by_cases h1 : r.stage = 1
      · rw [h1] at c2
        go_wp2_with (at_builtin; refine wpList_append_own _ rfl _ _ 61 rfl w.heap.size 109 i0 (.agg #[.int .i64 0, .int .i64 0]) 2 16 Try.underlying61 hi hz0 hz1 hz2 rfl (by omega) u3 acc.length (keyCells acc) rfl ?hown ⟨wr.heap.size + 1, 0, none⟩ 1 1 (keyCells [(r.conn, r.id)]) rfl rfl ?hnews ?h1 ?h63 ?hbytes ?hbase ?_)
        case hown => exact (hown.alloc _).alloc _
        case hnews => exact news_key _ _ (by simp) _ _ _
        case h1 => exact keyCells_one _
        case h63 => unfold maxLen; omega
        case hbytes => omega
        case hbase => simp; omega
        intro v' w2 hown2 hgrow _
        go_wp2
        refine ⟨⟨k + 1, by omega, by go_num, ?_, ?_⟩, by simp [intOf]; omega⟩
        · rw [HS.out, List.filter_append, List.map_append, show List.filter (fun r => r.stage == 1) [r] = [r] from by simp [List.filter, h1], HA.out, keyCells_append]
          simpa using hown2
        · refine ((hb.alloc hbase _).alloc (by simp; omega) _).grown hgrow (by simp; omega) ?_
          intro x hx
          exact (hown.lt x hx).1
      · have h2 : (r.stage == 1) = false := by simpa using h1
        go_wp2
        refine ⟨⟨k + 1, by omega, by go_num, ?_, hb.alloc hbase _⟩, by simp [intOf]; omega⟩
        rw [HS.out, List.filter_append, List.map_append, show List.filter (fun r => r.stage == 1) [r] = [] from by simp [List.filter, h2], HA.out]
        simpa using hown.alloc _
    · have : k = m.req.length := by omega
      subst this
      go_wp2
      go_ret
      rw [List.take_length] at hown
      exact ⟨_, rfl, hown, hb⟩

end
end Go.Proofs.Ytlafkpaljibonaa

namespace Go.Proofs.Ytlafkpaljibonaa
open Go.RowKit

theorem own_mono {w : World} {base base' : Nat} {e : TypeId} {size : Nat} {v : Value} {n : Nat} {l : List Value} (h : w.ownsRow base e size v n l) (hb : base' ≤ base) : w.ownsRow base' e size v n l := by
  obtain ⟨h1, h2⟩ := h
  refine ⟨h1, ?_⟩
  rcases h2 with h2 | ⟨g, cap, cur, hv, hg, r⟩
  · exact .inl h2
  · exact .inr ⟨g, cap, cur, hv, Nat.le_trans hb hg, r⟩

theorem own_keepAt {w w' : World} {base base' : Nat} {e : TypeId} {size n : Nat} {v : Value} {xs : List Value} (h : w.ownsRow base e size v n xs) (hb : ∀ g, v.ownBlock = some g → w'.heap[g]? = w.heap[g]?) (hbb : base' ≤ base) : w'.ownsRow base' e size v n xs := by
  refine own_mono ⟨h.1, ?_⟩ hbb
  rcases h.2 with h2 | ⟨g, cap, cur, rfl, hg, hh, r⟩
  · exact .inl h2
  · exact .inr ⟨g, cap, cur, rfl, hg, by rw [hb g rfl]; exact hh, r⟩

theorem own_slice {w : World} {base : Nat} {e : TypeId} {size n : Nat} {v : Value} {xs : List Value} (h : w.ownsRow base e size v n xs) :
    ∃ ao c, v = .slice ao n c ∧ (n : Int) ≤ 9223372036854775807 ∧ (0 < n → ∃ g, ao = some ⟨g, 0, none⟩ ∧ base ≤ g ∧ g < w.heap.size) := by
  rcases h.2 with ⟨rfl, rfl⟩ | ⟨g, cap, cur, rfl, hb, hg, hn, hc, hs, ht⟩
  · exact ⟨_, _, rfl, by omega, by omega⟩
  · exact ⟨_, _, rfl, by simp only [maxLen] at hc; omega, fun _ => ⟨g, rfl, hb, (Array.getElem?_eq_some_iff.1 hg).1⟩⟩

theorem keyCells_get (W : List (Int × Int)) (j : Nat) (h : j < W.length) : (keyCells W)[j * 2]? = some (.int .i64 W[j].1) ∧ (keyCells W)[j * 2 + 1]? = some (.int .i64 W[j].2) := by
  induction W generalizing j with
  | nil => simp at h
  | cons r l ih =>
    have e : keyCells (r :: l) = .int .i64 r.1 :: .int .i64 r.2 :: keyCells l := by simp [keyCells]
    cases j with
    | zero => simp [e]
    | succ j =>
      have := ih j (by simpa using h)
      rw [e, show (j + 1) * 2 = j * 2 + 1 + 1 from by omega]
      simpa using this

theorem ba_nil (a : ByteArray) : a ++ ⟨#[]⟩ = a := by
  have : (⟨#[]⟩ : ByteArray) = ByteArray.empty := rfl
  rw [this, ByteArray.append_empty]

theorem nil_ba (a : ByteArray) : ⟨#[]⟩ ++ a = a := by
  have : (⟨#[]⟩ : ByteArray) = ByteArray.empty := rfl
  rw [this, ByteArray.empty_append]

theorem encB_size (k i : Int) (c : ByteArray) : (encB k i c).size ≤ 208 := by
  unfold encB
  split
  · rename_i h
    obtain ⟨-, -, -, -, -, h5⟩ := allowedB_bd h
    simp only [enc, strOfNums_size, List.length_append, nums_length, List.length_cons, List.length_nil]
    omega
  · decide

theorem below_dN {B : Nat} {w w' : World} {m : Nat} (h : Below B w w') : Below B w (w'.drewN m) := ⟨h.os, h.tape, h.output, h.size, h.block⟩

end Go.Proofs.Ytlafkpaljibonaa

namespace Go.Proofs.Ytlafkpaljibonaa
open Go.RowKit

def isKey (c i : Int) (r : Req) : Bool := r.conn == c && r.id == i
def withoutL (l : List Req) (c i : Int) : List Req := l.filter fun r => !isKey c i r

theorem infoReq : (Try.prog.info? 111).map (fun i => (i.zero, i.size, i.bytes)) = some (some (.agg #[.int .i64 0, .int .i64 0, .int .i64 0, .string ⟨#[]⟩]), 4, 40) := by kernel_rfl

theorem reqCells_append (a b : List Req) : reqCells (a ++ b) = reqCells a ++ reqCells b := by simp [reqCells]
theorem reqCells_one (l : List Req) : ∀ u ∈ reqCells l, u.oneCell' = true := by
  intro u hu
  simp only [reqCells, List.mem_flatMap] at hu
  obtain ⟨r, _, hr⟩ := hu
  simp only [Req.cells, List.mem_cons, List.not_mem_nil, or_false] at hr
  rcases hr with rfl | rfl | rfl | rfl <;> rfl
theorem news_req (W : World) (g : Nat) (hg : W.heap.size = g) (r : Req) (T : TypeId) : ∀ j u, (reqCells [r])[j]? = some u → (W.alloc (.cells #[.int .i64 r.conn, .int .i64 r.id, .int .i64 r.stage, .string r.body] T)).cell? ((⟨g, 0, none⟩ : Addr).add j) = some u := by
  subst hg
  exact World.news_of_block (heap_alloc_new W _)

/-- A list of requests that lies in memory, whosever it is. -/
def ReqsAt (w : World) (v : Value) (l : List Req) : Prop :=
  ∃ ao c, v = .slice ao l.length c ∧ (l.length : Int) ≤ 9223372036854775807 ∧
    ∀ k (hk : k < l.length), ∃ g, ao = some ⟨g, 0, none⟩ ∧ g < w.heap.size ∧
    w.cell? ⟨g, k * 4, none⟩ = some (.int .i64 l[k].conn) ∧ w.cell? ⟨g, k * 4 + 1, none⟩ = some (.int .i64 l[k].id) ∧ w.cell? ⟨g, k * 4 + 2, none⟩ = some (.int .i64 l[k].stage) ∧ w.cell? ⟨g, k * 4 + 3, none⟩ = some (.string l[k].body)

theorem FMem.reqsAt {o : Nat → Tag} {q : Nat} {w : World} {b : Nat} {m : PM} {sv : Nat → Value} {rv : Value} (h : FMem o q w b m sv rv) : ReqsAt w rv m.req := by
  obtain ⟨ao, c, h1, h2, h3⟩ := h.list
  refine ⟨ao, c, h1, h2, fun k hk => ?_⟩
  obtain ⟨g, e, hg, -, -, hc⟩ := h3 k hk
  exact ⟨g, e, hg, hc⟩

set_option maxRecDepth 100000 in
set_option maxHeartbeats 2000000 in
theorem without_any (w : World) (rv : Value) (l : List Req) (h : ReqsAt w rv l) (c i : Int) (hmax : l.length ≤ 1000000000000) :
    Calls Try.prog 110 #[rv, .agg #[.int .i64 c, .int .i64 i]] w fun r w' => ∃ v, r = .returned v ∧ w'.ownsRow w.heap.size 111 4 v (withoutL l c i).length (reqCells (withoutL l c i)) ∧ Below w.heap.size w w' := by
  obtain ⟨i0, hi, hz0, hz1, hz2⟩ := info_parts infoReq
  obtain ⟨ao, cap, rfl, hn, hrow⟩ := h
  go_enter Try.func110, Try.ntmps110
  go_wp2
  have x0 := Blk.made w 109 [.int .i64 c, .int .i64 i]
  go_loopw [5, 10] (fun v j w' => ∃ k : Nat, k ≤ l.length ∧ j = .int .i64 k ∧ w'.ownsRow (w.heap.size + 1) 111 4 v (withoutL (l.take k) c i).length (reqCells (withoutL (l.take k) c i)) ∧ Blk w' w.heap.size 109 [.int .i64 c, .int .i64 i] ∧ Below w.heap.size w w') (fun _ j _ => l.length - (intOf j).toNat)
  case atStart => exact ⟨0, by omega, rfl, World.ownsRow_nil _ _ _ _, x0, (Below.refl _ _).alloc (Nat.le_refl _) _⟩
  case round =>
    clear x0
    obtain ⟨k, hk, rfl, hown, hx, hb⟩ := hrel
    have hbase : w.heap.size < wr.heap.size := hx.lt
    by_cases hlt : k < l.length
    · obtain ⟨g, rfl, hg, c0, c1, c2, c3⟩ := hrow k hlt
      have hst := List.take_succ_eq_append_getElem hlt
      have HS : Hid _ := hst
      have hll : (withoutL (l.take k) c i).length ≤ k := Nat.le_trans (List.length_filter_le _ _) (by rw [List.length_take]; omega)
      clear hst hrow
      rw [← hb.cell (by exact hg)] at c0 c1 c2 c3
      generalize hacc : withoutL (l.take k) c i = acc at *
      have HA : Hid _ := hacc
      clear hacc
      generalize l[k] = r at *
      have y0 := fun ob => (hx.below ((Below.refl _ _).alloc (Nat.le_refl _) ob)).cell (k := 0) (u := .int .i64 c) rfl
      have y1 := fun ob => (hx.below ((Below.refl _ _).alloc (Nat.le_refl _) ob)).cell (k := 1) (u := .int .i64 i) rfl
      have hfa : withoutL (l.take k ++ [r]) c i = withoutL (l.take k) c i ++ withoutL [r] c i := by simp [withoutL]
      have HF : Hid _ := hfa
      clear hfa
      by_cases h1 : r.conn = c ∧ r.id = i
      · obtain ⟨rfl, rfl⟩ := h1
        go_wp2
        refine ⟨⟨k + 1, by omega, by go_num, ?_, hx.below ((Below.refl _ _).alloc (Nat.le_refl _) _), hb.alloc (by omega) _⟩, by simp [intOf]; omega⟩
        rw [HS.out, HF.out, HA.out, show withoutL [r] r.conn r.id = [] from by simp [withoutL, isKey], List.append_nil]
        exact hown.alloc _
      · have h2 : ¬ (r.conn = c) ∨ ¬ (r.id = i) := by omega
        have h3 : isKey c i r = false := by simp only [isKey, Bool.and_eq_false_iff, beq_eq_false_iff_ne]; exact h2
        have H3 : Hid _ := h3
        clear h3
        by_cases hcc : r.conn = c
        · have hii : ¬ r.id = i := by omega
          clear h2 h1
          subst hcc
          go_wp2_with (at_builtin; refine wpList_append_own _ rfl _ _ 98 rfl (w.heap.size + 1) 111 i0 (.agg #[.int .i64 0, .int .i64 0, .int .i64 0, .string ⟨#[]⟩]) 4 40 Try.underlying98 hi hz0 hz1 hz2 rfl (by omega) u5 acc.length (reqCells acc) rfl ?hown ⟨wr.heap.size + 1, 0, none⟩ 1 1 (reqCells [r]) rfl rfl ?hnews ?h1 ?h63 ?hbytes ?hbase ?_)
          case hown => exact (hown.alloc _).alloc _
          case hnews => exact news_req _ _ (by simp) _ _
          case h1 => exact reqCells_one _
          case h63 => unfold maxLen; omega
          case hbytes => omega
          case hbase => simp; omega
          intro v' w2 hown2 hgrow _
          go_wp2
          have hne : some w.heap.size ≠ u5.ownBlock := by intro e; have := (hown.lt _ e.symm).1; omega
          refine ⟨⟨k + 1, by omega, by go_num, ?_, ?_, ?_⟩, by simp [intOf]; omega⟩
          · rw [HS.out, HF.out, HA.out, show withoutL [r] r.conn i = [r] from by simp [withoutL, H3.out], reqCells_append]
            simpa using hown2
          · exact hx.keep ((hgrow.block _ (by simp; omega) hne).trans ((Below.heap_alloc _ _ _ (by simp; omega)).trans (Below.heap_alloc _ _ _ (by omega))))
          · refine ((hb.alloc (by omega) _).alloc (by simp; omega) _).grown hgrow (by simp; omega) ?_
            intro y hy
            have := (hown.lt y hy).1
            omega
        · clear h2 h1
          go_wp2_with (at_builtin; refine wpList_append_own _ rfl _ _ 98 rfl (w.heap.size + 1) 111 i0 (.agg #[.int .i64 0, .int .i64 0, .int .i64 0, .string ⟨#[]⟩]) 4 40 Try.underlying98 hi hz0 hz1 hz2 rfl (by omega) u5 acc.length (reqCells acc) rfl ?hown ⟨wr.heap.size + 1, 0, none⟩ 1 1 (reqCells [r]) rfl rfl ?hnews ?h1 ?h63 ?hbytes ?hbase ?_)
          case hown => exact (hown.alloc _).alloc _
          case hnews => exact news_req _ _ (by simp) _ _
          case h1 => exact reqCells_one _
          case h63 => unfold maxLen; omega
          case hbytes => omega
          case hbase => simp; omega
          intro v' w2 hown2 hgrow _
          go_wp2
          have hne : some w.heap.size ≠ u5.ownBlock := by intro e; have := (hown.lt _ e.symm).1; omega
          refine ⟨⟨k + 1, by omega, by go_num, ?_, ?_, ?_⟩, by simp [intOf]; omega⟩
          · rw [HS.out, HF.out, HA.out, show withoutL [r] c i = [r] from by simp [withoutL, H3.out], reqCells_append]
            simpa using hown2
          · exact hx.keep ((hgrow.block _ (by simp; omega) hne).trans ((Below.heap_alloc _ _ _ (by simp; omega)).trans (Below.heap_alloc _ _ _ (by omega))))
          · refine ((hb.alloc (by omega) _).alloc (by simp; omega) _).grown hgrow (by simp; omega) ?_
            intro y hy
            have := (hown.lt y hy).1
            omega
    · have : k = l.length := by omega
      subst this
      go_wp2
      go_ret
      rw [List.take_length] at hown
      exact ⟨_, rfl, own_keepAt hown (fun _ _ => rfl) (by omega), hb⟩

section
variable {o : Nat → Tag} {q : Nat} {w : World} {b : Nat} {m : PM} {sv : Nat → Value} {rv : Value}

/-- The list of requests is another from now on: one that was just made. -/
theorem FMem.newReq {w1 : World} (h : FMem o q w b m sv rv) (hb : Below w.heap.size w w1) (v : Value) (l : List Req) (own : w1.ownsRow w.heap.size 111 4 v l.length (reqCells l)) :
    ∃ o', FMem o' q (w1.setCell ⟨b, 20, none⟩ v) b { m with req := l } sv v ∧ Fr q o w o' (w1.setCell ⟨b, 20, none⟩ v) := by
  have hbl := h.blk.lt
  have hlt := own.lt
  let o' : Nat → Tag := fun g => if v.ownBlock = some g then (q, 6) else o g
  have oold : ∀ g, g < w.heap.size → o' g = o g := by
    intro g hg
    have : ¬ v.ownBlock = some g := by intro e; have := (hlt g e).1; omega
    simp only [o', if_neg this]
  have hsz : (w1.setCell ⟨b, 20, none⟩ v).heap.size = w1.heap.size := by simp [World.setCell]
  have hcl : Clean o' (w1.setCell ⟨b, 20, none⟩ v) := by
    intro g hg
    rw [hsz] at hg
    have : ¬ v.ownBlock = some g := by intro e; have := (hlt g e).2; omega
    simp only [o', if_neg this]
    exact h.clean g (Nat.le_trans hb.size hg)
  have hoth : ∀ g, g < w.heap.size → g ≠ b → (w1.setCell ⟨b, 20, none⟩ v).heap[g]? = w.heap[g]? := by
    intro g hg hne
    rw [Below.heap_setCell _ _ _ g hne]; exact hb.block g hg
  refine ⟨o', ⟨hcl, (oold b hbl).trans h.tag, ?_, fun k hk => ?_, ?_, h.few⟩, ⟨hb.os, hb.tape, hb.output, by rw [hsz]; exact hb.size, hcl, oold, fun g hg hq => hoth g hg ?_⟩⟩
  · have := (h.blk.below hb).set 20 v
    exact this
  · exact (h.sent k hk).keep oold fun g hg ht => hoth g hg (by rintro rfl; rw [h.tag] at ht; simp at ht; omega)
  · refine ⟨own_keepAt own (fun g hg => Below.heap_setCell _ _ _ g (by have := (hlt g hg).1; simp; omega)) (Nat.zero_le _), fun g hg => ?_⟩
    simp only [o', if_pos hg]
  · rintro rfl; rw [h.tag] at hq; exact hq rfl

def PM.slotHas (m : PM) (c i : Int) (k : Nat) : Bool := (m.slot k).conn == c && (m.slot k).id == i
def PM.slotFrom (m : PM) (c i : Int) (k : Nat) : Nat → Option Nat
  | 0 => none
  | n + 1 => cond (m.slotHas c i k) (some k) (m.slotFrom c i (k + 1) n)
def PM.slotOf (m : PM) (c i : Int) : Option Nat := m.slotFrom c i 0 6

theorem PM.slotFrom_lt (m : PM) (c i : Int) (k n a : Nat) (h : m.slotFrom c i k n = some a) : a < k + n := by
  induction n generalizing k with
  | zero => simp [PM.slotFrom] at h
  | succ n ih =>
    simp only [PM.slotFrom] at h
    cases hr : m.slotHas c i k
    · rw [hr] at h
      have := ih (k + 1) h
      omega
    · rw [hr] at h
      simp only [cond_true, Option.some.injEq] at h
      omega

set_option maxRecDepth 100000 in
set_option maxHeartbeats 2000000 in
theorem slotOf_any (h : FMem o q w b m sv rv) (c i : Int) :
    Calls Try.prog 111 #[.pointer (some ⟨b, 0, none⟩), .agg #[.int .i64 c, .int .i64 i]] w fun r w' => r = .returned (fwV (m.slotOf c i)) ∧ Below w.heap.size w w' := by
  have hl := slots_range (h.alloc (.cells #[.int .i64 c, .int .i64 i] 109))
  have hn := slots_info m
  have hi := index_slots m
  unfold PM.slotOf
  generalize slotsCells m = SC at *
  simp only [PSlot.cells] at hi
  have x0 := Blk.made w 109 [.int .i64 c, .int .i64 i]
  go_enter Try.func111, Try.ntmps111
  go_wp2_with (refine wpList_load_mid rfl 101 (.tmp 10) rfl b 21 rfl SC _ hl Try.underlying101 rfl hn ?_)
  go_loopw [12] (fun j w' => ∃ k : Nat, k ≤ 6 ∧ m.slotFrom c i 0 6 = m.slotFrom c i k (6 - k) ∧ j = .int .i64 k ∧ Blk w' w.heap.size 109 [.int .i64 c, .int .i64 i] ∧ Below w.heap.size w w') (fun j _ => 6 - (intOf j).toNat)
  case atStart => exact ⟨0, by omega, rfl, rfl, x0, (Below.refl _ _).alloc (Nat.le_refl _) _⟩
  case round =>
    clear x0 hl hn
    obtain ⟨k, hk, hf, rfl, hx, hb⟩ := hrel
    have HF : Hid _ := hf
    clear hf
    by_cases hlt : k < 6
    · have hik := hi k hlt
      clear hi
      have HS : Hid (m.slotFrom c i k (6 - k) = cond (m.slotHas c i k) (some k) (m.slotFrom c i (k + 1) (6 - (k + 1)))) := by
        rw [show 6 - k = (6 - (k + 1)) + 1 from by omega]; rfl
      have y0 := fun ob => (hx.below ((Below.refl _ _).alloc (Nat.le_refl _) ob)).cell (k := 0) (u := .int .i64 c) rfl
      have y1 := fun ob => (hx.below ((Below.refl _ _).alloc (Nat.le_refl _) ob)).cell (k := 1) (u := .int .i64 i) rfl
      by_cases h1 : (m.slot k).conn = c
      · by_cases h2 : (m.slot k).id = i
        · have HT : Hid (m.slotHas c i k = true) := by show _ = _; simp [PM.slotHas, h1, h2]
          go_wp2
          go_ret2
          refine ⟨?_, hb.alloc (Nat.le_of_lt hx.lt) _⟩
          rw [HF.out, HS.out, HT.out]; rfl
        · have HT : Hid (m.slotHas c i k = false) := by show _ = _; simp [PM.slotHas, h2]
          go_wp2
          refine ⟨⟨k + 1, by omega, ?_, by go_num, hx.below ((Below.refl _ _).alloc (Nat.le_refl _) _), hb.alloc (Nat.le_of_lt hx.lt) _⟩, by simp [intOf]; omega⟩
          rw [HF.out, HS.out, HT.out]; rfl
      · have HT : Hid (m.slotHas c i k = false) := by show _ = _; simp [PM.slotHas, h1]
        go_wp2
        refine ⟨⟨k + 1, by omega, ?_, by go_num, hx.below ((Below.refl _ _).alloc (Nat.le_refl _) _), hb.alloc (Nat.le_of_lt hx.lt) _⟩, by simp [intOf]; omega⟩
        rw [HF.out, HS.out, HT.out]; rfl
    · have : k = 6 := by omega
      subst this
      go_wp2
      go_ret2
      refine ⟨?_, hb⟩
      rw [HF.out]; simp [PM.slotFrom, fwV]
end
end Go.Proofs.Ytlafkpaljibonaa

namespace Go.Proofs.Ytlafkpaljibonaa
open Go

section
variable {P : Program} {ops : Array Oper} {Q : Exit → Act → World → Prop} {md : Region.Mode} {S : World → Prop}

theorem at_of_drop {i : Nat} {oi : Oper} {tl : List Oper} (hi : ops.toList.drop i = oi :: tl) : ops[i]? = some oi := by
  rw [← Array.getElem?_toList]
  have h : (ops.toList.drop i)[0]? = some oi := by rw [hi]; rfl
  simpa using h

/-- 'wpAnyH_take' with the operation read off the written-out region by 'rfl'. -/
theorem take_at {i : Nat} {oi : Oper} {tl : List Oper} {v : Value} {fuel : Nat} {listed : Array Bool} {a : Act} {w : World} (hi : ops.toList.drop i = oi :: tl)
    (hs : Region.noSelect ops = true) (hf : Region.free md ops listed i = true) (hr : (Region.ready md ops listed).contains i = true)
    (hQ : ∀ c a w, Q (.panic c) (a.put oi.dst v) w → Q (.panic c) a w) (hw : Region.wanted oi (yielded ops a.tmps) = true)
    (hy : ∀ w, S w → (execOp a.eval oi).run P w = .ok (.value v) w) (hS : S w)
    (h : wpAnyH P md ops Q S fuel (listed.setIfInBounds i true) (a.put oi.dst v) w) : wpAnyH P md ops Q S (fuel + 1) listed a w :=
  wpAnyH_take (at_of_drop hi) hs hf hr hQ (Or.inl ⟨hw, hy⟩) hS h

/-- A guarded operation that is not wanted. -/
theorem skip_at {i : Nat} {oi : Oper} {tl : List Oper} {fuel : Nat} {listed : Array Bool} {a : Act} {w : World} (hi : ops.toList.drop i = oi :: tl)
    (hs : Region.noSelect ops = true) (hf : Region.free md ops listed i = true) (hr : (Region.ready md ops listed).contains i = true)
    (hQ : ∀ c a w, Q (.panic c) (a.put oi.dst undef) w → Q (.panic c) a w) (hw : Region.wanted oi (yielded ops a.tmps) = false) (hS : S w)
    (h : wpAnyH P md ops Q S fuel (listed.setIfInBounds i true) (a.put oi.dst undef) w) : wpAnyH P md ops Q S (fuel + 1) listed a w :=
  wpAnyH_take (at_of_drop hi) hs hf hr hQ (Or.inr ⟨hw, rfl⟩) hS h

/-- The one operation that may come up is carried out. -/
theorem only_at {i : Nat} {oi : Oper} {tl : List Oper} {fuel : Nat} {listed : Array Bool} {a : Act} {w : World} (hi : ops.toList.drop i = oi :: tl)
    (hr : Region.ready md ops listed = [i]) (hw : Region.wanted oi (yielded ops a.tmps) = true)
    (h : ∀ K' : Act → World → Prop, Shut (∀ a w, S w → wpAnyH P md ops Q S fuel (listed.setIfInBounds i true) a w → K' a w) → Oper.wp P oi a w K' Q) :
    wpAnyH P md ops Q S (fuel + 1) listed a w := by
  refine wpAnyH_ready hr (by simp) (AllReadyH.cons (at_of_drop hi) (fun K' hK => ?_) AllReadyH.nil)
  rw [if_pos hw]
  exact h K' (fun a w hS hW => hK.out a w hS (fun _ => hW))

end
end Go.Proofs.Ytlafkpaljibonaa
