import Derived.Test.YtlafkpaljibonaaJ14
import Derived.Test.YtlafkpaljibonaaJ12
namespace Go.Proofs.Ytlafkpaljibonaa
open Go.RowKit

/-- While it tells: what was begun, what will be answered, the Ends so far, the records. -/
structure TellS (w : World) (f : Int → Int) (L : List Rec) (v : Value) (C : List Value) (W : World) : Prop where
  beg : Blk W w.heap.size 79 (rowB f)
  res : Blk W (w.heap.size + 1) 79 zero7
  ends : Blk W (w.heap.size + 2) 79 C
  own : W.ownsRow (w.heap.size + 3) 23 3 v L.length (rowOf L)
  bel : Below w.heap.size w W

theorem TellS.set {w W : World} {f : Int → Int} {L : List Rec} {v : Value} {C : List Value} (h : TellS w f L v C W) (j : Nat) (u : Value) : TellS w f L v (C.set j u) (W.setCell ⟨w.heap.size + 2, j, none⟩ u) :=
  ⟨h.beg.keep (Below.heap_setCell _ _ _ _ (by simp)), h.res.keep (Below.heap_setCell _ _ _ _ (by simp)), h.ends.set j u,
   own_keepAt h.own (fun g hg => Below.heap_setCell _ _ _ g (by have := (h.own.lt g hg).1; simp; omega)) (Nat.le_refl _), h.bel.setCell (by simp) _⟩

theorem TellS.drew {w W : World} {f : Int → Int} {L : List Rec} {v : Value} {C : List Value} {n : Nat} (h : TellS w f L v C W) : TellS w f L v C (W.drewN n) :=
  ⟨h.beg, h.res, h.ends, own_keepAt h.own (fun _ _ => rfl) (Nat.le_refl _), below_dN h.bel⟩

theorem three_blks (w : World) (A B C : List Value) (S T U : TypeId) : Blk (((w.alloc (.cells A.toArray S)).alloc (.cells B.toArray T)).alloc (.cells C.toArray U)) w.heap.size S A ∧ Blk (((w.alloc (.cells A.toArray S)).alloc (.cells B.toArray T)).alloc (.cells C.toArray U)) (w.heap.size + 1) T B ∧ Blk (((w.alloc (.cells A.toArray S)).alloc (.cells B.toArray T)).alloc (.cells C.toArray U)) (w.heap.size + 2) U C ∧ Below w.heap.size w (((w.alloc (.cells A.toArray S)).alloc (.cells B.toArray T)).alloc (.cells C.toArray U)) ∧ (((w.alloc (.cells A.toArray S)).alloc (.cells B.toArray T)).alloc (.cells C.toArray U)).heap.size = w.heap.size + 3 := by
  obtain ⟨a, b, d⟩ := two_blks w A B S T
  have hs : ((w.alloc (.cells A.toArray S)).alloc (.cells B.toArray T)).heap.size = w.heap.size + 2 := by simp
  have x := Blk.made ((w.alloc (.cells A.toArray S)).alloc (.cells B.toArray T)) U C
  have hb : Below _ _ (((w.alloc (.cells A.toArray S)).alloc (.cells B.toArray T)).alloc (.cells C.toArray U)) := (Below.refl _ _).alloc (Nat.le_refl _) _
  rw [hs] at x
  exact ⟨a.below hb, b.below hb, x, d.trans (hb.mono (by omega)), by simp⟩

theorem row_info (f : Int → Int) : (Try.prog.info? 79).map (·.size) = some (rowB f).length := by
  show (Try.prog.info? 79).map (·.size) = some 7
  kernel_rfl
theorem row_one (f : Int → Int) : ((rowB f).toArray).all (·.oneCell') = true := by simp [rowB, Value.oneCell']

theorem results_two {fn : Func} {a b : Tmp} {t : TypeId} (h : fn.results = #[.cell a t, .tmp b]) {tmps : Array Value} {ad : Addr} (ha : tmps.getD a undef = .pointer (some ad)) {P : Program} {w : World} {v u : Value} (hl : (loadVar t ad).run P w = .ok v w) (hb : tmps.getD b undef = u) :
    (results fn tmps).run P w = .ok (.tuple #[v, u]) w := by
  have ha' : tmps[a]?.getD undef = .pointer (some ad) := by rw [← ha]; simp
  have hb' : tmps[b]?.getD undef = u := by rw [← hb]; simp
  simp [results, h, asAddr, ha', hl, hb']

theorem str_one (s : Int) : strOfNums [s] = ⟨#[UInt8.ofNat s.toNat]⟩ := rfl

set_option maxRecDepth 100000 in
set_option maxHeartbeats 8000000 in
theorem tell_any (f : Int → Int) (L : List Rec) (h : Tells f L) (hsz : (strOfNums (sentOf L)).size ≤ 100000000000) (w : World) :
    Calls Try.prog 41 #[.string (strOfNums (sentOf L)), .agg (rowB f).toArray] w fun r w' => r = .returned (.tuple #[.agg (rowB (endsF L)).toArray, .bool true]) ∧ Below w.heap.size w w' := by
  obtain ⟨d1, d2, d3⟩ := sent_dec h
  have kD : Hid (∀ w', Calls Try.prog 17 #[.string (strOfNums (sentOf L))] w' fun r w'' => ∃ v, r = .returned (.tuple #[v, .int .i64 (((strOfNums (sentOf L)).size : Nat) : Int), .int .i64 0]) ∧ w''.ownsRow w'.heap.size 23 3 v L.length (rowOf L) ∧ Below w'.heap.size w' w'') := fun w' => by
    have := fDecode_any (strOfNums (sentOf L)) w' (by omega)
    rw [d1, d2, d3] at this
    exact this
  have hlen := sentOf_len L
  clear d1 d2 d3
  generalize strOfNums (sentOf L) = S at *
  obtain ⟨xa, xb, xc, hb0, hs0⟩ := three_blks w (rowB f) zero7 zero7 79 79 79
  have HZ : Hid (zero7.toArray = #[.int .i64 0, .int .i64 0, .int .i64 0, .int .i64 0, .int .i64 0, .int .i64 0, .int .i64 0]) := rfl
  go_enter Try.func41, Try.ntmps41
  go_wp2_with fail
  refine (kD.out _).mono ?_
  rintro e w1 ⟨v, rfl, own, hb1⟩
  rw [← HZ.out] at own hb1
  have T0 : TellS w f L v zero7 w1 := ⟨xa.below hb1, xb.below hb1, xc.below hb1, by rw [hs0] at own; exact own, hb0.trans (hb1.mono (by omega))⟩
  obtain ⟨ao, co, rfl, hln, hao⟩ := own_slice own
  clear xa xb xc hb0 hs0 own hb1 kD
  go_wp2
  go_loopw [10] (fun i w' => ∃ k : Nat, k ≤ L.length ∧ i = .int .i64 k ∧ TellS w f L (.slice ao L.length co) (rowB (endsF (L.take k))) w') (fun i _ => L.length - (intOf i).toNat)
  case atStart => exact ⟨0, by omega, rfl, T0⟩
  case round =>
    clear T0
    obtain ⟨k, hk, rfl, st⟩ := hrel
    by_cases hlt : k < L.length
    · obtain ⟨g, rfl, -, -⟩ := hao (by omega)
      have hkI : (k : Int) < L.length := by omega
      have p0 := st.own.cellAt (k * 3) (by omega)
      have p1 := st.own.cellAt (k * 3 + 1) (by omega)
      have p2 := st.own.cellAt (k * 3 + 2) (by omega)
      rw [show k * 3 = 3 * k from Nat.mul_comm _ _] at p0 p1 p2
      rw [(rowOf_get L k hlt).1] at p0
      rw [(rowOf_get L k hlt).2.1] at p1
      rw [(rowOf_get L k hlt).2.2] at p2
      rw [show 3 * k = k * 3 from Nat.mul_comm _ _] at p0 p1 p2
      obtain ⟨⟨hid, hkd⟩, hfew⟩ := h k hlt
      obtain ⟨n, hn⟩ : ∃ n : Nat, L[k].2.1 = n := ⟨L[k].2.1.toNat, by omega⟩
      have hE := ends_end L k hlt n (by omega)
      have hO := ends_out L k hlt
      have hle := endsL_le (L.take k) n
      have hll : (L.take k).length ≤ L.length := by rw [List.length_take]; omega
      have q0 := st.ends.cell (rowB_get (endsF (L.take k)) n (by omega))
      have q1 := st.beg.cell (rowB_get f n (by omega))
      have fz := st.ends.frozen
      rw [hn] at p1 hfew
      have hf2 : endsF (L.take k) n < f n := hfew
      have hz2 : endsF (L.take k) n ≤ 100000000000 := by unfold endsF; omega
      have hz0 : 0 ≤ endsF (L.take k) n := by unfold endsF; omega
      have HE : Hid (L[k].1 = 3 → (rowB (endsF (L.take k))).set n (.int .i64 (endsF (L.take k) n + 1)) = rowB (endsF (L.take (k + 1)))) := fun e => hE e hn
      have HO : Hid (L[k].1 ≠ 3 → endsF (L.take (k + 1)) = endsF (L.take k)) := hO
      have hn7 : (n : Int) < 7 := by omega
      have hn6 : ¬ ((n : Int) > 6) := by omega
      clear hE hO hfew hle hll
      generalize endsF (L.take k) n = EN at *
      generalize f n = FN at *
      rcases hkd with ⟨e3, s, hs0, hs6, ec⟩ | ⟨e6, hc0, hc2⟩
      · rw [e3] at p0
        rw [ec, str_one] at p2
        have hu : (UInt8.ofNat s.toNat).toNat ≤ 6 := by
          rw [UInt8.toNat_ofNat_of_lt' (by simp [UInt8.size]; omega)]; omega
        generalize UInt8.ofNat s.toNat = u at *
        have huI : ¬ ((6 : Int) < (((⟨#[u]⟩ : ByteArray)[0]'(show 0 < 1 from Nat.one_pos)).toNat : Int)) := by
          show ¬ ((6 : Int) < (u.toNat : Int))
          omega
        go_wp2
        go_quiet (fail)
        go_wp2
        exact ⟨⟨k + 1, by omega, by go_num, by rw [← HE.out e3]; exact (TellS.drew st).set n _⟩, by simp [intOf]; omega⟩
      · rw [e6] at p0
        generalize L[k].2.2 = cc at *
        go_wp2
        go_quiet (fail)
        go_wp2
        exact ⟨⟨k + 1, by omega, by go_num, by rw [HO.out (by omega)]; exact TellS.drew st⟩, by simp [intOf]; omega⟩
    · have hk2 : k = L.length := by omega
      have hkI : ¬ ((k : Int) < L.length) := by omega
      subst hk2
      rw [List.take_length] at st
      have hrg : wr.rangeAt (w.heap.size + 2) 0 (rowB (endsF L)) := fun j v hv => st.ends.cell (by simpa using hv)
      have hth : wr.there (w.heap.size + 1) 0 (rowB (endsF L)).toArray.size := by
        intro j hj
        refine ⟨?_, st.res.frozen _⟩
        have hj2 : j < zero7.length := hj
        rw [st.res.cell (k := 0 + j) (u := zero7[j]) (by rw [Nat.zero_add]; exact List.getElem?_eq_getElem hj2)]
        rfl
      have hinfo := row_info (endsF L)
      have hone := row_one (endsF L)
      have hbel := st.bel
      clear st
      generalize hLL : rowB (endsF L) = LL at *
      have HL : Hid _ := hLL
      clear hLL
      go_wp2_with (first | (refine wpList_load_mid rfl 79 _ rfl (w.heap.size + 2) 0 rfl LL _ hrg Try.underlying79 rfl hinfo ?_) | (refine wpList_store_mid rfl 79 _ _ rfl (w.heap.size + 1) 0 LL.toArray rfl rfl hth (by simpa using hinfo) hone ?_))
      have hld := run_loadVar_mid (P := Try.prog) (wr.setCells (w.heap.size + 1) 0 LL) (w.heap.size + 1) 0 79 LL _ (World.rangeAt_setCells_same _ _ _ _ (by simpa using hth)) Try.underlying79 rfl hinfo
      refine bodyPost_ret (v := .tuple #[.agg LL.toArray, .bool true]) (results_two Try.results41 rfl hld rfl) rfl ⟨by rw [HL.out], setCells_below (by omega) _ _ _ hbel⟩
end Go.Proofs.Ytlafkpaljibonaa

namespace Go.Proofs.Ytlafkpaljibonaa
open Go.RowKit

/-- Cells are laid into a variable of its own. -/
theorem put_any (w : World) (T : TypeId) (Z L : List Value) (hL : L.length = Z.length) :
    (w.alloc (.cells Z.toArray T)).there w.heap.size 0 L.toArray.size ∧ Below w.heap.size w ((w.alloc (.cells Z.toArray T)).setCells w.heap.size 0 L) ∧ ((w.alloc (.cells Z.toArray T)).setCells w.heap.size 0 L).rangeAt w.heap.size 0 L ∧ w.heap.size < ((w.alloc (.cells Z.toArray T)).setCells w.heap.size 0 L).heap.size := by
  have x := Blk.made w T Z
  have th : (w.alloc (.cells Z.toArray T)).there w.heap.size 0 L.length := by
    intro j hj
    refine ⟨?_, x.frozen _⟩
    rw [x.cell (k := 0 + j) (u := Z[j]'(by omega)) (by rw [Nat.zero_add]; exact List.getElem?_eq_getElem _)]
    rfl
  exact ⟨by simpa using th, setCells_below (Nat.le_refl _) _ _ _ ((Below.refl _ _).alloc (Nat.le_refl _) _), World.rangeAt_setCells_same _ _ _ _ th, by rw [setCells_size]; simp⟩

theorem eq_row (f : Int → Int) (w : World) : (binOp .neq 79 (.agg (rowB f).toArray) (.agg (rowB f).toArray)).run Try.prog w = .ok (.bool false) w := by
  obtain ⟨i0, hi⟩ : ∃ i, Try.prog.info? 3 = some i := Option.isSome_iff_exists.1 (by kernel_rfl)
  have hc : Try.prog.cellsOf 3 = 1 := by kernel_rfl
  rw [run_neq_struct, run_equalIn_array w 9999 _ _ Try.underlying79 hi, hc]
  rw [eqItems_self _ ?_]
  · rfl
  · intro i hin
    have : i = 0 ∨ i = 1 ∨ i = 2 ∨ i = 3 ∨ i = 4 ∨ i = 5 ∨ i = 6 := by simp at hin; omega
    rcases this with rfl | rfl | rfl | rfl | rfl | rfl | rfl
    · exact ⟨.int .i64 (f 0), by simp [part, isAgg, run_underlying Try.underlying3, rowB], by rw [run_equalIn_int w 9998 _ _ _ _ _ Try.underlying3]; simp⟩
    · exact ⟨.int .i64 (f 1), by simp [part, isAgg, run_underlying Try.underlying3, rowB], by rw [run_equalIn_int w 9998 _ _ _ _ _ Try.underlying3]; simp⟩
    · exact ⟨.int .i64 (f 2), by simp [part, isAgg, run_underlying Try.underlying3, rowB], by rw [run_equalIn_int w 9998 _ _ _ _ _ Try.underlying3]; simp⟩
    · exact ⟨.int .i64 (f 3), by simp [part, isAgg, run_underlying Try.underlying3, rowB], by rw [run_equalIn_int w 9998 _ _ _ _ _ Try.underlying3]; simp⟩
    · exact ⟨.int .i64 (f 4), by simp [part, isAgg, run_underlying Try.underlying3, rowB], by rw [run_equalIn_int w 9998 _ _ _ _ _ Try.underlying3]; simp⟩
    · exact ⟨.int .i64 (f 5), by simp [part, isAgg, run_underlying Try.underlying3, rowB], by rw [run_equalIn_int w 9998 _ _ _ _ _ Try.underlying3]; simp⟩
    · exact ⟨.int .i64 (f 6), by simp [part, isAgg, run_underlying Try.underlying3, rowB], by rw [run_equalIn_int w 9998 _ _ _ _ _ Try.underlying3]; simp⟩

theorem put_more {w : World} {b : Nat} {T : TypeId} {Z L : List Value} (x : Blk w b T Z) (hL : L.length = Z.length) : w.there b 0 L.toArray.size ∧ (w.setCells b 0 L).rangeAt b 0 L := by
  have th : w.there b 0 L.length := by
    intro j hj
    refine ⟨?_, x.frozen _⟩
    rw [x.cell (k := 0 + j) (u := Z[j]'(by omega)) (by rw [Nat.zero_add]; exact List.getElem?_eq_getElem _)]
    rfl
  exact ⟨by simpa using th, World.rangeAt_setCells_same _ _ _ _ th⟩

/-- What lies between two turns of Drained's loops: the foreman, and how often each Id was begun. -/
structure DInv (w : World) (gb fb : Nat) (o : Nat → Tag) (w' : World) (M : PM) (b : Nat → Int → Int) : Prop where
  sole : ∃ sv rv, FMem o 1 w' fb M sv rv
  fr : FrN noK w o w'
  glt : w.heap.size ≤ gb
  tag : o gb = (0, 0)
  g : Blk w' gb 80 (begC b)

section
variable {w w' w'' : World} {gb fb B : Nat} {o : Nat → Tag} {M M' : PM} {b b' : Nat → Int → Int}

theorem DInv.below (h : DInv w gb fb o w' M b) (hb : Below w'.heap.size w' w'') : DInv w gb fb o w'' M b := by
  obtain ⟨sv, rv, hm⟩ := h.sole
  exact ⟨⟨sv, rv, hm.below hb⟩, h.fr.below hb, h.glt, h.tag, h.g.below hb⟩

theorem DInv.left (h : DInv w gb fb o w' M b) (hl : Left o 1 w' fb M' w'') : ∃ o', DInv w gb fb o' w'' M' b := by
  obtain ⟨o', sv', rv', h1, h2⟩ := hl
  exact ⟨o', ⟨sv', rv', h1⟩, h.fr.trans (h2.toN (by omega)), h.glt, (h2.tags gb h.g.lt).trans h.tag, h.g.keep (h2.block gb h.g.lt (by rw [h.tag]; decide))⟩

theorem DInv.sets (h : DInv w gb fb o w' M b) (k : Nat) (vs : List Value) (e : overL (begC b) k vs = begC b') : DInv w gb fb o (w'.setCells gb k vs) M b' := by
  obtain ⟨sv, rv, hm⟩ := h.sole
  refine ⟨⟨sv, rv, hm.fr (fr0_sets (by rw [h.tag]) vs k hm.clean) (by omega)⟩, FrN.sets0 h.glt vs k h.fr, h.glt, h.tag, ?_⟩
  rw [← e]
  exact Blk.setCells (w := w') vs k h.g

theorem drained_open (h : DInv w gb fb o w' M b) (n : Nat) (hn : n < 4) :
    Calls Try.prog 40 #[.pointer (some ⟨fb, 0, none⟩), .int .i64 n] w' fun r w'' => r = .returned (.bool (M.con n).op) ∧ w'' = w' := by
  obtain ⟨sv, rv, hm⟩ := h.sole
  have := open_any hm n
  unfold PM.open_ at this
  rw [show isC (n : Int) = true from by simp [isC]; omega] at this
  exact this

theorem drained_sent (h : DInv w gb fb o w' M b) (n : Nat) :
    Calls Try.prog 36 #[.pointer (some ⟨fb, 0, none⟩), .int .i64 n] w' fun r w'' => r = .returned (.string (M.sent_ n)) ∧ w'' = w' := by
  obtain ⟨sv, rv, hm⟩ := h.sole
  exact sent_any hm n

theorem drained_do (h : DInv w gb fb o w' M b) (hf : M.Fit B) (hB : B ≤ 48000000) (x : KSt) (hx : x.in64) (hs : x.s.size ≤ 100000000) :
    Calls Try.prog 23 #[.pointer (some ⟨fb, 0, none⟩), x.val] w' fun r w'' => r = .returned (.int .i64 (M.doE x)) ∧ ∃ o', DInv w gb fb o' w'' (M.doM x) b ∧ FrN o w' o' w'' := by
  obtain ⟨sv, rv, hm⟩ := h.sole
  refine (do_any hm (by omega) hf hB x hx hs).mono ?_
  rintro r w'' ⟨e, hl⟩
  obtain ⟨o', h1⟩ := h.left hl
  obtain ⟨o2, sv2, rv2, h2, h3⟩ := hl
  exact ⟨e, o2, ⟨⟨sv2, rv2, h2⟩, h.fr.trans (h3.toN (by omega)), h.glt, (h3.tags gb h.g.lt).trans h.tag, h.g.keep (h3.block gb h.g.lt (by rw [h.tag]; decide))⟩, h3.toN (by omega)⟩

theorem drained_completes (h : DInv w gb fb o w' M b) (hf : M.Fit B) (hB : B ≤ 48000000) (c : Nat) (i : Int) (hi : 1 ≤ i ∧ i ≤ 6) :
    Calls Try.prog 42 #[.pointer (some ⟨fb, 0, none⟩), .int .i64 c, .int .i64 i] w' fun r w'' => r = .returned (.tuple #[]) ∧ ∃ o', DInv w gb fb o' w'' (M.afterFeed c (enc 5 i ⟨#[]⟩ [])) b := by
  obtain ⟨sv, rv, hm⟩ := h.sole
  refine (completes_any hm (by omega) hf hB c i hi).mono ?_
  rintro r w'' ⟨e, hl⟩
  exact ⟨e, h.left hl⟩

theorem drained_round (h : DInv w gb fb o w' M b) (hf : M.Fit B) (hB : B ≤ 47000000) :
    Calls Try.prog 43 #[.pointer (some ⟨fb, 0, none⟩)] w' fun r w'' => r = .returned (.tuple #[]) ∧ ∃ o', DInv w gb fb o' w'' M.round b := by
  obtain ⟨sv, rv, hm⟩ := h.sole
  refine (roundW_any hm (by omega) hf hB).mono ?_
  rintro r w'' ⟨e, hl⟩
  exact ⟨e, h.left hl⟩

theorem drained_look (h : DInv w gb fb o w' M b) (hf : M.Fit B) (hB : B ≤ 48000000) :
    Calls Try.prog 27 #[.pointer (some ⟨fb, 0, none⟩)] w' fun r w'' => ∃ a ca, r = .returned (.agg (lookC M 4 6 (.slice a M.waits.length ca) M.time true).toArray) ∧ Below w'.heap.size w' w'' := by
  obtain ⟨sv, rv, hm⟩ := h.sole
  refine (look_any hm (by have := hf.small.req; omega)).mono ?_
  rintro r w'' ⟨bv, e, own, hb⟩
  obtain ⟨a, ca, rfl, -, -⟩ := own_slice own
  exact ⟨a, ca, e, hb⟩

/-- What one step makes of the numbers. -/
theorem begB_cases (b : Nat → Int → Int) (M : PM) (x : KSt) :
    (x.ki = 0 ∧ (M.con x.cn.toNat).op = false ∧ begB b M x = anewB b x.cn.toNat) ∨
    (x.ki = 2 ∧ (M.con x.cn.toNat).op = true ∧ ((M.doM x).con x.cn.toNat).op = true ∧ pickI x.b 4 = 0 ∧ begB b M x = bump b x.cn.toNat x.id) ∨
    ((x.ki == 0) = false ∧ (x.ki == 2) = false ∧ begB b M x = b) ∨
    (x.ki = 0 ∧ (M.con x.cn.toNat).op = true ∧ begB b M x = b) ∨
    (x.ki = 2 ∧ (M.con x.cn.toNat).op = false ∧ begB b M x = b) ∨
    (x.ki = 2 ∧ (M.con x.cn.toNat).op = true ∧ ((M.doM x).con x.cn.toNat).op = false ∧ begB b M x = b) ∨
    (x.ki = 2 ∧ (M.con x.cn.toNat).op = true ∧ ((M.doM x).con x.cn.toNat).op = true ∧ (pickI x.b 4 == 0) = false ∧ begB b M x = b) := by
  unfold begB
  by_cases k0 : x.ki = 0
  · cases ho : (M.con x.cn.toNat).op
    · left; exact ⟨k0, rfl, if_pos ⟨k0, rfl⟩⟩
    · right; right; right; left
      exact ⟨k0, rfl, by rw [if_neg (fun e => by cases e.2), if_neg (fun e => by omega)]⟩
  · by_cases k2 : x.ki = 2
    · cases ho : (M.con x.cn.toNat).op
      · right; right; right; right; left
        exact ⟨k2, rfl, by rw [if_neg (fun e => k0 e.1), if_neg (fun e => by cases e.2.1)]⟩
      · cases hn : ((M.doM x).con x.cn.toNat).op
        · right; right; right; right; right; left
          exact ⟨k2, rfl, rfl, by rw [if_neg (fun e => k0 e.1), if_neg (fun e => by cases e.2.2.1)]⟩
        · by_cases p0 : pickI x.b 4 = 0
          · right; left
            exact ⟨k2, rfl, rfl, p0, by rw [if_neg (fun e => k0 e.1), if_pos ⟨k2, rfl, rfl, p0⟩]⟩
          · right; right; right; right; right; right
            exact ⟨k2, rfl, rfl, by simpa using p0, by rw [if_neg (fun e => k0 e.1), if_neg (fun e => p0 e.2.2.2)]⟩
    · right; right; left
      exact ⟨by simpa using k0, by simpa using k2, by rw [if_neg (fun e => k0 e.1), if_neg (fun e => k2 e.1)]⟩

end
end Go.Proofs.Ytlafkpaljibonaa
