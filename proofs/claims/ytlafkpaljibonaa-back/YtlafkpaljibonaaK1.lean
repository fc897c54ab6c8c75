import Derived.Test.YtlafkpaljibonaaH
namespace Go.Proofs.Ytlafkpaljibonaa
open Go.RowKit

def pickI (c n : Int) : Int := (if c < 0 then -(c + 1) else c) % n

theorem pickI_bd (c n : Int) (hn : 0 < n) : 0 ≤ pickI c n ∧ pickI c n < n := ⟨Int.emod_nonneg _ (by omega), Int.emod_lt_of_pos _ hn⟩

theorem neg_tm (c n : Int) (hc : c < 0) : -(c + 1).tmod n = -(c + 1) % n := by
  rw [← Int.neg_tmod, Int.tmod_eq_emod_of_nonneg (by omega)]

set_option maxRecDepth 100000 in
set_option maxHeartbeats 400000 in
theorem pick_any (c n : Int) (w : World) (h0 : -9223372036854775808 ≤ c) (h1 : c ≤ 9223372036854775807) (hn : 0 < n) (hn2 : n ≤ 1000000000) :
    Calls Try.prog 15 #[.int .i64 c, .int .i64 n] w fun r w' => r = .returned (.int .i64 (pickI c n)) ∧ w' = w := by
  have hnz : (n == 0) = false := by simp; omega
  unfold pickI
  by_cases hc : c < 0
  · rw [if_pos hc]
    go_enter Try.func15, Try.ntmps15
    go_wp2
    go_ret
    refine ⟨?_, rfl⟩
    rw [← neg_tm c n hc]; rfl
  · rw [if_neg hc]
    go_enter Try.func15, Try.ntmps15
    go_wp2
    go_ret
    exact ⟨rfl, rfl⟩

def shortB (s : ByteArray) (n : Nat) : ByteArray := if n < s.size then s.extract 0 n else s

set_option maxRecDepth 100000 in
set_option maxHeartbeats 400000 in
theorem short_any (s : ByteArray) (n : Nat) (w : World) (hn : n ≤ 1000000) :
    Calls Try.prog 30 #[.string s, .int .i64 n] w fun r w' => r = .returned (.string (shortB s n)) ∧ w' = w := by
  unfold shortB
  by_cases hc : n < s.size
  · rw [if_pos hc]
    go_enter Try.func30, Try.ntmps30
    go_wp2
    go_ret
    exact ⟨rfl, rfl⟩
  · rw [if_neg hc]
    go_enter Try.func30, Try.ntmps30
    go_wp2
    go_ret
    exact ⟨rfl, rfl⟩

/-- The kinds, by their places. -/
def kindAt (j : Int) : Int := if j = 0 then 1 else if j = 1 then 2 else if j = 2 then 3 else if j = 3 then 5 else 6

theorem kindAt_ok (j : Int) : isKindB (kindAt j) = true := by
  unfold kindAt
  split
  · rfl
  · split
    · rfl
    · split
      · rfl
      · split <;> rfl

def shK (k : Int) : Int := kindAt (pickI k 5)
def shI (i : Int) : Int := 1 + pickI i 65535
def shC (c : ByteArray) : ByteArray := shortB c 200

theorem arr5 (w : World) (g : Nat) (hg : w.heap.size = g) (j : Int) (h0 : 0 ≤ j) (h5 : j < 5) (T : TypeId) :
    (w.alloc (.cells #[.int .i64 1, .int .i64 2, .int .i64 3, .int .i64 5, .int .i64 6] T)).cell? ⟨g, j.toNat, none⟩ = some (.int .i64 (kindAt j)) := by
  rw [World.cell?_alloc_at _ _ _ _ hg.symm]
  have : j = 0 ∨ j = 1 ∨ j = 2 ∨ j = 3 ∨ j = 4 := by omega
  rcases this with rfl | rfl | rfl | rfl | rfl <;> rfl

/-- The world of 'shaped' ahead of its last statement. -/
def shW (w : World) (k i : Int) (c : ByteArray) : World :=
  ((w.alloc (.cells #[.int .i64 k, .int .i64 i, .string c] 23)).alloc (.cells #[.int .i64 0, .int .i64 0, .string ⟨#[]⟩] 23)).alloc (.cells #[.int .i64 1, .int .i64 2, .int .i64 3, .int .i64 5, .int .i64 6] 89)

structure ShF (w W : World) (k i : Int) (c : ByteArray) (j : Int) : Prop where
  a0 : W.cell? ⟨w.heap.size, 0, none⟩ = some (.int .i64 k)
  a1 : W.cell? ⟨w.heap.size, 1, none⟩ = some (.int .i64 i)
  a2 : W.cell? ⟨w.heap.size, 2, none⟩ = some (.string c)
  b0 : W.cell? ⟨w.heap.size + 1, 0, none⟩ = some (.int .i64 0)
  b1 : W.cell? ⟨w.heap.size + 1, 1, none⟩ = some (.int .i64 0)
  b2 : W.cell? ⟨w.heap.size + 1, 2, none⟩ = some (.string ⟨#[]⟩)
  fz : ∀ o, W.frozen? ⟨w.heap.size + 1, o, none⟩ = false
  c0 : W.cell? ⟨w.heap.size + 1 + 1, j.toNat, none⟩ = some (.int .i64 (kindAt j))
  bel : Below w.heap.size w W

theorem shF (w : World) (k i : Int) (c : ByteArray) (j : Int) (h0 : 0 ≤ j) (h5 : j < 5) : ShF w (shW w k i c) k i c j := by
  refine ⟨?_, ?_, ?_, ?_, ?_, ?_, ?_, ?_, ?_⟩
  · simp [shW, go_sem]
  · simp [shW, go_sem]
  · simp [shW, go_sem]
  · simp [shW, go_sem]
  · simp [shW, go_sem]
  · simp [shW, go_sem]
  · intro o; simp [shW, go_sem]
  · exact arr5 _ _ (by simp) j h0 h5 _
  · exact (((Below.refl _ _).alloc (Nat.le_refl _) _).alloc (by simp) _).alloc (by simp; omega) _

set_option maxRecDepth 100000 in
set_option maxHeartbeats 2000000 in
theorem shaped_any (k i : Int) (c : ByteArray) (w : World) (k0 : -9223372036854775808 ≤ k) (k1 : k ≤ 9223372036854775807) (i0 : -9223372036854775808 ≤ i) (i1 : i ≤ 9223372036854775807) :
    Calls Try.prog 14 #[.agg #[.int .i64 k, .int .i64 i, .string c]] w fun r w' => r = .returned (.agg #[.int .i64 (shK k), .int .i64 (shI i), .string (shC c)]) ∧ Below w.heap.size w w' := by
  unfold shK shI shC
  have pk := pickI_bd k 5 (by omega)
  have pi := pickI_bd i 65535 (by omega)
  have hF := shF w k i c _ pk.1 pk.2
  have ck : ∀ wx, Calls Try.prog 15 #[.int .i64 k, .int .i64 5] wx fun r w' => r = .returned (.int .i64 (pickI k 5)) ∧ w' = wx := fun wx => pick_any k 5 wx k0 k1 (by omega) (by omega)
  have ci : ∀ wx, Calls Try.prog 15 #[.int .i64 i, .int .i64 65535] wx fun r w' => r = .returned (.int .i64 (pickI i 65535)) ∧ w' = wx := fun wx => pick_any i 65535 wx i0 i1 (by omega) (by omega)
  have cc : ∀ wx, Calls Try.prog 30 #[.string c, .int .i64 200] wx fun r w' => r = .returned (.string (shortB c 200)) ∧ w' = wx := fun wx => short_any c 200 wx (by omega)
  generalize pickI k 5 = pk5 at *
  generalize pickI i 65535 = pi6 at *
  generalize shortB c 200 = c2 at *
  have CK := (show Hid _ from ck)
  have CI := (show Hid _ from ci)
  have CC := (show Hid _ from cc)
  clear ck ci cc
  go_enter Try.func14, Try.ntmps14
  go_wp2
  change Code.wp _ _ _ _ (shW w k i c)
  generalize shW w k i c = W at *
  obtain ⟨a0, a1, a2, b0, b1, b2, fz, c0, bel⟩ := hF
  have hw : IntKind.i64.wrap (1 + pi6) = 1 + pi6 := wrap_ok (by omega) (by omega)
  go_region_held3 (fun w' => w'.cell? ⟨w.heap.size, 0, none⟩ = some (.int .i64 k) ∧ w'.cell? ⟨w.heap.size, 1, none⟩ = some (.int .i64 i) ∧ w'.cell? ⟨w.heap.size, 2, none⟩ = some (.string c) ∧ w'.cell? ⟨w.heap.size + 1 + 1, pk5.toNat, none⟩ = some (.int .i64 (kindAt pk5))) (go_keep)
    (first | (go_at_call_of 15 (Value.int IntKind.i64 k); refine (CK.out _).mono ?_; rintro e w' ⟨rfl, rfl⟩) | (go_at_call_of 15 (Value.int IntKind.i64 i); refine (CI.out _).mono ?_; rintro e w' ⟨rfl, rfl⟩) | (go_at_call 30; refine (CC.out _).mono ?_; rintro e w' ⟨rfl, rfl⟩))
  go_wp2
  refine bodyPost_ret (v := .agg #[.int .i64 (kindAt pk5), .int .i64 (1 + pi6), .string c2]) (by simp [results, Try.results14, go_sem, b0, b1, b2]) rfl ⟨rfl, ?_⟩
  exact (((bel.setCell (by simp) _).setCell (by simp) _).setCell (by simp) _).drew

/-- The padding that 'bytes' writes. -/
def padL (n : Nat) : List Int := (List.range n).map fun (j : Nat) => 17 * (j : Int)

theorem padL_succ (n : Nat) : padL (n + 1) = padL n ++ [17 * (n : Int)] := by simp [padL, List.range_succ]
theorem padL_length (n : Nat) : (padL n).length = n := by simp [padL]

def headL (k i : Int) (c p : Int) : List Int := [1, k, i / 256, i % 256, 0, c, p, 0]

theorem enc_padL (k i : Int) (c : ByteArray) (n : Nat) : enc k i c (padL n) = strOfNums (headL k i c.size n ++ nums c ++ padL n) := by
  simp [enc, headL, padL_length]

theorem str_push (a : List Int) (x : Int) : strOfNums a ++ strOfNums [x] = strOfNums (a ++ [x]) := strOfNums_append a [x]

set_option maxRecDepth 100000 in
set_option maxHeartbeats 2000000 in
theorem bytes_any (k i : Int) (c : ByteArray) (n : Nat) (w : World) (hk : 1 ≤ k ∧ k ≤ 6) (hi : 1 ≤ i ∧ i ≤ 65535) (hc : (c.size : Int) ≤ 200) (hn : n ≤ 7) :
    Calls Try.prog 16 #[.int .i64 k, .int .i64 i, .string c, .int .i64 n] w fun r w' => r = .returned (.string (enc k i c (padL n))) ∧ Below w.heap.size w w' := by
  have hm : (c.size : Int) % 256 = c.size := by omega
  have hnm : (n : Int) % 256 = n := by omega
  have hcv := conv_lit w w.heap.size rfl 8 (headL k i c.size n) #[.int .u8 1, .int .u8 k, .int .u8 (i / 256), .int .u8 (i % 256), .int .u8 0, .int .u8 c.size, .int .u8 n, .int .u8 0] rfl rfl (by omega)
  have hsz : (strOfNums (headL k i c.size n)).size = 8 := by simp [strOfNums_size, headL]
  rw [enc_padL]
  generalize headL k i c.size n = hd at *
  go_enter Try.func16, Try.ntmps16
  go_wp2
  clear hcv
  go_loopw [9, 10] (fun v j w' => ∃ m : Nat, m ≤ n ∧ j = .int .i64 m ∧ v = .string (strOfNums (hd ++ nums c ++ padL m)) ∧ Below w.heap.size w w') (fun _ j _ => n - (intOf j).toNat)
  case atStart =>
    refine ⟨0, Nat.zero_le _, rfl, ?_, (Below.refl _ _).alloc (Nat.le_refl _) _⟩
    have := strOfNums_append hd (nums c)
    rw [strOfNums_nums] at this
    rw [this]; simp [padL]
  case round =>
    obtain ⟨m, hm2, rfl, rfl, hb⟩ := hrel
    have hb' := hb.size
    by_cases hlt : m < n
    · have hcv2 := conv_lit wr wr.heap.size rfl 1 [17 * (m : Int)] #[.int .u8 (17 * (m : Int))] rfl rfl (by omega)
      have hpu := str_push (hd ++ nums c ++ padL m) (17 * (m : Int))
      have hl : (strOfNums (hd ++ nums c ++ padL m)).size ≤ 1000 := by
        have h8 := hsz
        rw [strOfNums_size] at h8
        simp [strOfNums_size, nums_length, padL_length]; omega
      have hl1 : (strOfNums [17 * (m : Int)]).size = 1 := by simp [strOfNums_size]
      rw [show hd ++ nums c ++ padL m ++ [17 * (m : Int)] = hd ++ nums c ++ padL (m + 1) from by rw [padL_succ, List.append_assoc]] at hpu
      generalize strOfNums [17 * (m : Int)] = one at *
      generalize strOfNums (hd ++ nums c ++ padL m) = cur at *
      have HP : Hid _ := hpu
      clear hpu
      have h256 : (17 * (m : Int)) % 256 = 17 * m := by omega
      go_wp2
      refine ⟨⟨m + 1, by omega, by go_num, by rw [HP.out], hb.alloc (by omega) _⟩, by simp [intOf]; omega⟩
    · have : m = n := by omega
      subst this
      go_wp2
      go_ret
      exact ⟨rfl, hb⟩

theorem enc_size (k i : Int) (c : ByteArray) (p : List Int) : (enc k i c p).size = 8 + c.size + p.length := by
  simp [enc, strOfNums_size, nums_length]; omega

def tailB (k i : Int) (c : ByteArray) (less : Int) (n : Nat) : ByteArray :=
  (enc k i c (padL n)).extract 0 ((8 + c.size + n : Nat) - 1 - pickI less (8 + c.size + n : Nat)).toNat

set_option maxRecDepth 100000 in
set_option maxHeartbeats 2000000 in
theorem tail_any (k i : Int) (c : ByteArray) (less : Int) (n : Nat) (w : World) (hk : 1 ≤ k ∧ k ≤ 6) (hi : 1 ≤ i ∧ i ≤ 65535) (hc : (c.size : Int) ≤ 200) (hn : n ≤ 7) (h0 : -9223372036854775808 ≤ less) (h1 : less ≤ 9223372036854775807) :
    Calls Try.prog 18 #[.agg #[.int .i64 k, .int .i64 i, .string c], .int .i64 less, .int .i64 n] w fun r w' => r = .returned (.string (tailB k i c less n)) ∧ Below w.heap.size w w' := by
  have hsz := enc_size k i c (padL n)
  rw [padL_length] at hsz
  have hT : tailB k i c less n = (enc k i c (padL n)).extract 0 ((8 + c.size + n : Nat) - 1 - pickI less (8 + c.size + n : Nat)).toNat := rfl
  generalize hTT : tailB k i c less n = T at *
  clear hTT
  have hbytes := fun wx => bytes_any k i c n wx hk hi hc hn
  generalize enc k i c (padL n) = E at *
  have hN : 8 + c.size + n ≤ 1000 := by omega
  have hN8 : 8 ≤ 8 + c.size + n := by omega
  generalize 8 + c.size + n = N at *
  have pb := pickI_bd less N (by omega)
  have cp := fun wx => pick_any less N wx h0 h1 (by omega) (by omega)
  generalize pickI less N = pl at *
  have CP : Hid _ := cp
  have CB : Hid _ := hbytes
  clear cp hbytes
  subst hsz
  have HT : Hid _ := hT
  clear hT
  have hs : ∀ wx : World, (Instr.slice 9 (.string E) none (some (.int .i64 ((E.size : Int) - 1 - pl))) none).run Try.prog wx = .ok (.string (E.extract 0 ((E.size : Int) - 1 - pl).toNat)) wx := by
    intro wx
    rw [run_slice_string_to_if wx 9 E .i64 ((E.size : Int) - 1 - pl) Try.underlying9, if_pos (by omega)]
  go_enter Try.func18, Try.ntmps18
  go_wp2_with fail
  refine (CB.out _).mono ?_
  rintro e w1 ⟨rfl, b1⟩
  have a1 : Below w.heap.size w w1 := ((Below.refl _ _).alloc (Nat.le_refl _) _).trans (b1.mono (by simp))
  clear b1
  go_wp2_with fail
  refine (CP.out _).mono ?_
  rintro e w2 ⟨rfl, rfl⟩
  go_wp2
  go_ret
  exact ⟨by rw [HT.out]; rfl, a1⟩

def wrongAt (j : Int) : ByteArray :=
  if j = 0 then ⟨#[0, 1, 0, 1, 0, 1, 0, 0]⟩ else if j = 1 then ⟨#[2, 5, 0, 1, 0, 0, 0, 0]⟩ else if j = 2 then ⟨#[1, 4, 0, 1, 0, 0, 0, 0]⟩ else if j = 3 then ⟨#[1, 7, 0, 1, 0, 0, 0, 0]⟩ else if j = 4 then ⟨#[1, 5, 0, 0, 0, 1, 0, 0]⟩ else
  if j = 5 then ⟨#[1, 5, 0, 1, 0, 201, 0, 0]⟩ else if j = 6 then ⟨#[1, 5, 0, 1, 1, 0, 0, 0]⟩ else if j = 7 then ⟨#[1, 5, 0, 1, 0, 1, 8, 0]⟩ else ⟨#[1, 5, 0, 1, 0, 1, 0, 1]⟩

theorem arr9 (w : World) (j : Int) (h0 : 0 ≤ j) (h9 : j < 9) (T : TypeId) : (w.alloc (.cells #[.string ⟨#[0, 1, 0, 1, 0, 1, 0, 0]⟩, .string ⟨#[2, 5, 0, 1, 0, 0, 0, 0]⟩, .string ⟨#[1, 4, 0, 1, 0, 0, 0, 0]⟩, .string ⟨#[1, 7, 0, 1, 0, 0, 0, 0]⟩, .string ⟨#[1, 5, 0, 0, 0, 1, 0, 0]⟩, .string ⟨#[1, 5, 0, 1, 0, 201, 0, 0]⟩, .string ⟨#[1, 5, 0, 1, 1, 0, 0, 0]⟩, .string ⟨#[1, 5, 0, 1, 0, 1, 8, 0]⟩, .string ⟨#[1, 5, 0, 1, 0, 1, 0, 1]⟩] T)).cell? ⟨w.heap.size, j.toNat, none⟩ = some (.string (wrongAt j)) := by
  rw [World.cell?_alloc_at _ _ _ _ rfl]
  have : j = 0 ∨ j = 1 ∨ j = 2 ∨ j = 3 ∨ j = 4 ∨ j = 5 ∨ j = 6 ∨ j = 7 ∨ j = 8 := by omega
  rcases this with rfl | rfl | rfl | rfl | rfl | rfl | rfl | rfl | rfl <;> rfl

set_option maxRecDepth 100000 in
set_option maxHeartbeats 2000000 in
theorem wrong_any (k : Int) (w : World) (h0 : -9223372036854775808 ≤ k) (h1 : k ≤ 9223372036854775807) :
    Calls Try.prog 19 #[.int .i64 k] w fun r w' => r = .returned (.string (wrongAt (pickI k 9))) ∧ Below w.heap.size w w' := by
  have pb := pickI_bd k 9 (by omega)
  have cp := fun wx => pick_any k 9 wx h0 h1 (by omega) (by omega)
  generalize pickI k 9 = j at *
  have CP : Hid _ := cp
  clear cp
  have hcell := arr9 w j pb.1 pb.2 90
  go_enter Try.func19, Try.ntmps19
  go_wp2_with fail
  refine (CP.out _).mono ?_
  rintro e w2 ⟨rfl, rfl⟩
  have hb : Below w.heap.size w (w.alloc (.cells #[.string ⟨#[0, 1, 0, 1, 0, 1, 0, 0]⟩, .string ⟨#[2, 5, 0, 1, 0, 0, 0, 0]⟩, .string ⟨#[1, 4, 0, 1, 0, 0, 0, 0]⟩, .string ⟨#[1, 7, 0, 1, 0, 0, 0, 0]⟩, .string ⟨#[1, 5, 0, 0, 0, 1, 0, 0]⟩, .string ⟨#[1, 5, 0, 1, 0, 201, 0, 0]⟩, .string ⟨#[1, 5, 0, 1, 1, 0, 0, 0]⟩, .string ⟨#[1, 5, 0, 1, 0, 1, 8, 0]⟩, .string ⟨#[1, 5, 0, 1, 0, 1, 0, 1]⟩] 90)) := (Below.refl _ _).alloc (Nat.le_refl _) _
  generalize w.alloc (.cells #[.string ⟨#[0, 1, 0, 1, 0, 1, 0, 0]⟩, .string ⟨#[2, 5, 0, 1, 0, 0, 0, 0]⟩, .string ⟨#[1, 4, 0, 1, 0, 0, 0, 0]⟩, .string ⟨#[1, 7, 0, 1, 0, 0, 0, 0]⟩, .string ⟨#[1, 5, 0, 0, 0, 1, 0, 0]⟩, .string ⟨#[1, 5, 0, 1, 0, 201, 0, 0]⟩, .string ⟨#[1, 5, 0, 1, 1, 0, 0, 0]⟩, .string ⟨#[1, 5, 0, 1, 0, 1, 8, 0]⟩, .string ⟨#[1, 5, 0, 1, 0, 1, 0, 1]⟩] 90) = W at *
  go_wp2
  go_ret
  exact ⟨rfl, hb⟩
end Go.Proofs.Ytlafkpaljibonaa
