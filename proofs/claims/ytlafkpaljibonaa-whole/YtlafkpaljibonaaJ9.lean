import Derived.Test.YtlafkpaljibonaaJ8
import Derived.Test.YtlafkpaljibonaaJ7
namespace Go.Proofs.Ytlafkpaljibonaa
open Go.RowKit

theorem wpList_append_X {ops : Array Oper} {rest : List Oper} {o : Oper} {a : Act} {Q : Exit → Act → World → Prop} (w : World) (hgd : o.guard = none) (s x : Operand)
    (ho : o.op = .call { callee := .builtin .append, args := #[s, x], argTypes := #[32, 32] })
    (base : Nat) (v : Value) (n : Nat) (hs : a.eval s = v) (hown : ownX w base v n) (ad : Addr) (m c : Nat) (hx : a.eval x = .slice (some ad) m c)
    (hnews : ∀ j u, (xs m)[j]? = some u → w.cell? (ad.add j) = some u) (hm : 0 < m) (hb : n + m ≤ 1000000000000) (hbase : base ≤ w.heap.size)
    (h : ∀ g cap w', ownX w' base (.slice (some ⟨g, 0, none⟩) (n + m) cap) (n + m) → w.grownBy w' v.ownBlock → (∀ base' u k, ownX w base' u k → ownX w' base' u k) → g < w'.heap.size → wpList Try.prog ops Q rest (a.put o.dst (.slice (some ⟨g, 0, none⟩) (n + m) cap)) w') :
    wpList Try.prog ops Q (o :: rest) a w := by
  obtain ⟨g, cap, w', hr, h2, h3, h4, h5⟩ := append_X w o.type base v n hown ad m c hnews hm hb hbase
  refine wpList_plain hgd fun K hK => ?_
  unfold Oper.wp execOp
  simp only [ho, resolve, invoke, builtin, Sem.run_bind, Sem.run_pure, Result.andThen_ok, List.map_toArray, List.map_cons, List.map_nil, hs, hx, hr]
  exact hK _ _ (h g cap w' h2 h3 h4 h5)

theorem own_form {w : World} {base : Nat} {e : TypeId} {size : Nat} {v : Value} {n : Nat} {l : List Value} (h : w.ownsRow base e size v n l) : ∃ a c, v = .slice a n c := by
  rcases h.2 with ⟨rfl, rfl⟩ | ⟨g, cap, cur, rfl, _⟩
  · exact ⟨_, _, rfl⟩
  · exact ⟨_, _, rfl⟩

theorem kept_below {w w' : World} {base : Nat} {e : TypeId} {size : Nat} {v : Value} {n : Nat} {l : List Value} (h : w.ownsRow base e size v n l) (hb : Below w.heap.size w w') : w'.ownsRow base e size v n l :=
  h.kept (row := none) ⟨hb.os, hb.tape, hb.output, hb.size, fun b hb' _ => hb.block b hb'⟩ (by cases hv : v.ownBlock <;> simp)

theorem own_drewN {w : World} {base : Nat} {e : TypeId} {size : Nat} {v : Value} {n m : Nat} {l : List Value} (h : w.ownsRow base e size v n l) : (w.drewN m).ownsRow base e size v n l := h

theorem below_drewN' {B : Nat} {w w' : World} {m : Nat} (h : Below B w w') : Below B w (w'.drewN m) := ⟨h.os, h.tape, h.output, h.size, h.block⟩

theorem rowOf_set (l : List Rec) (k : Nat) (r : Rec) (hk : k < l.length) : (((rowOf l).set (k * 3) (.int .i64 r.1)).set (k * 3 + 1) (.int .i64 r.2.1)).set (k * 3 + 2) (.string r.2.2) = rowOf (l.set k r) := by
  induction l generalizing k with
  | nil => simp at hk
  | cons x l ih =>
    have e : ∀ (x : Rec) (l : List Rec), rowOf (x :: l) = .int .i64 x.1 :: .int .i64 x.2.1 :: .string x.2.2 :: rowOf l := fun x l => by simp [rowOf, rcells]
    cases k with
    | zero => simp [e]
    | succ k =>
      have := ih k (by simpa using hk)
      rw [List.set_cons_succ, e, e, ← this, show (k + 1) * 3 = k * 3 + 1 + 1 + 1 from by omega]
      rfl

/-- One element of an owned row of records is written over. -/
theorem own_store {w : World} {base g n cap : Nat} {l : List Rec} (h : w.ownsRow base 23 3 (.slice (some ⟨g, 0, none⟩) n cap) n (rowOf l)) (k : Nat) (hk : k < l.length) (r : Rec) :
    (((w.setCell ⟨g, k * 3, none⟩ (.int .i64 r.1)).setCell ⟨g, k * 3 + 1, none⟩ (.int .i64 r.2.1)).setCell ⟨g, k * 3 + 2, none⟩ (.string r.2.2)).ownsRow base 23 3 (.slice (some ⟨g, 0, none⟩) n cap) n (rowOf (l.set k r)) := by
  rw [← rowOf_set l k r hk]
  exact ((h.stored _ _).1.stored _ _).1.stored _ _ |>.1

/-- What stands in memory while the owner writes over a list. -/
structure St (w : World) (B1 B4 n : Nat) (a b : Value) (L : List Rec) (W : World) : Prop where
  oa : ownX W w.heap.size a n
  ob : W.ownsRow B1 23 3 b n (rowOf L)
  x0 : W.cell? ⟨B4, 0, none⟩ = some (.int .i64 (-1))
  x1 : W.cell? ⟨B4, 1, none⟩ = some (.int .i64 0)
  x2 : W.cell? ⟨B4, 2, none⟩ = some (.string ⟨#[]⟩)
  bel : Below w.heap.size w W
  lt : B4 < W.heap.size

theorem St.step {w : World} {B1 B4 n : Nat} {a b : Value} {L : List Rec} {W W' : World} {o : Obj} (h : St w B1 B4 n a b L W) (ha : ∀ k, a.ownBlock = some k → w.heap.size ≤ k ∧ k < B1) (hB : B1 ≤ B4)
    (hg : (W.alloc o).grownBy W' a.ownBlock) (hk : ∀ base' u k, ownX (W.alloc o) base' u k → ownX W' base' u k) : St w B1 B4 n a b L W' := by
  have hne : some B4 ≠ a.ownBlock := fun e => by have := ha _ e.symm; omega
  have hsz : W.heap.size ≤ W'.heap.size := by have := hg.size; simp at this; omega
  have hc : ∀ (i : Nat) (v : Value), W.cell? ⟨B4, i, none⟩ = some v → W'.cell? ⟨B4, i, none⟩ = some v := fun i v hv =>
    hg.cell (by rw [World.cell?_alloc_lt _ _ _ (World.block_lt_of_cell? _ _ hv)]; exact hv) hne
  refine ⟨hk _ _ _ (World.ownsRow.alloc h.oa o), (h.ob.alloc o).kept hg ?_, hc _ _ h.x0, hc _ _ h.x1, hc _ _ h.x2, (h.bel.alloc (by have := h.bel.size; omega) o).grown hg (by have := h.bel.size; simp; omega) (fun k e => (ha k e).1), by have := h.lt; omega⟩
  rcases hb : b.ownBlock with _ | kb
  · exact .inl rfl
  · right
    have := h.ob.lt kb hb
    intro e
    have := ha kb e.symm
    omega

theorem news_blk (W : World) (g : Nat) (hg : W.heap.size = g) (m : Nat) (cs : Array Value) (hcs : cs.toList = xs m) (T : TypeId) : ∀ j u, (xs m)[j]? = some u → (W.alloc (.cells cs T)).cell? ((⟨g, 0, none⟩ : Addr).add j) = some u := by
  subst hg
  rw [← hcs]
  exact World.news_of_block (heap_alloc_new W _)

theorem ownX_cells {w : World} {base g n c : Nat} (h : ownX w base (.slice (some ⟨g, 0, none⟩) n c) n) (k : Nat) (hk : k < n) :
    w.cell? ⟨g, k * 3, none⟩ = some (.int .i64 (-1)) ∧ w.cell? ⟨g, k * 3 + 1, none⟩ = some (.int .i64 0) ∧ w.cell? ⟨g, k * 3 + 2, none⟩ = some (.string ⟨#[]⟩) := by
  unfold ownX at h
  rw [h.cellAt _ (by omega), h.cellAt _ (by omega), h.cellAt _ (by omega), xs_get _ _ (by omega), xs_get _ _ (by omega), xs_get _ _ (by omega)]
  refine ⟨?_, ?_, ?_⟩
  · rw [xat, if_pos (by omega)]
  · rw [xat, if_neg (by omega), if_pos (by omega)]
  · rw [xat, if_neg (by omega), if_neg (by omega)]


set_option maxRecDepth 100000 in
set_option maxHeartbeats 4000000 in
theorem decodes_any (s : ByteArray) (w : World) (hmax : (s.size : Int) ≤ 100000000000) (hlen : (decL s).length ≤ 100000000000) :
    Calls Try.prog 12 #[.string s] w fun r w' => r = .returned (.bool true) ∧ Below w.heap.size w w' := by
  go_enter Try.func12, Try.ntmps12
  go_wp2_with fail
  refine (fDecode_any s _ (by omega)).mono ?_
  rintro e w1 ⟨va, rfl, owna, b1⟩
  go_wp2_with fail
  refine (refDecode_any s _ (by omega)).mono ?_
  rintro e w2 ⟨vb, rfl, ownb, b2⟩
  have owna2 := kept_below owna b2
  have hb12 : Below w.heap.size w w2 := b1.trans (b2.mono b1.size)
  have ha1 := owna.lt
  have hsz := b2.size
  have hsz1 := b1.size
  clear owna b1 b2
  go_wp2_with fail
  refine (sameRecords_own va vb _ _ _ _ (by omega) owna2 ownb).mono ?_
  rintro e w3 ⟨rfl, m3, hw3⟩
  replace owna2 : w3.ownsRow w.heap.size 23 3 va (decL s).length (rowOf (decL s)) := by rw [hw3]; exact owna2
  replace ownb : w3.ownsRow w1.heap.size 23 3 vb (decL s).length (rowOf (decL s)) := by rw [hw3]; exact ownb
  replace hb12 : Below w.heap.size w w3 := by rw [hw3]; exact below_drewN' hb12
  replace hsz : w1.heap.size ≤ w3.heap.size := by rw [hw3]; exact hsz
  clear hw3
  generalize hLL : decL s = L at *
  have HLL : Hid _ := hLL
  clear hLL
  obtain ⟨aA, cA, rfl⟩ := own_form owna2
  obtain ⟨aB, cB, rfl⟩ := own_form ownb
  go_wp2_with (go_at_call 13; refine (num_any _ _).mono ?_; rintro e w4 ⟨rfl, rfl⟩)
  have hx0 : (w4.alloc (.cells #[.int .i64 (-1), .int .i64 0, .string ⟨#[]⟩] 23)).cell? ⟨w4.heap.size, 0, none⟩ = some (.int .i64 (-1)) := by rw [World.cell?_alloc_at _ _ _ _ rfl]; rfl
  have hx1 : (w4.alloc (.cells #[.int .i64 (-1), .int .i64 0, .string ⟨#[]⟩] 23)).cell? ⟨w4.heap.size, 1, none⟩ = some (.int .i64 0) := by rw [World.cell?_alloc_at _ _ _ _ rfl]; rfl
  have hx2 : (w4.alloc (.cells #[.int .i64 (-1), .int .i64 0, .string ⟨#[]⟩] 23)).cell? ⟨w4.heap.size, 2, none⟩ = some (.string ⟨#[]⟩) := by rw [World.cell?_alloc_at _ _ _ _ rfl]; rfl
  go_loopw [11] (fun i w' => ∃ (k : Nat) (l' : List Rec), i = .int .i64 k ∧ k ≤ L.length ∧ l'.length = L.length ∧ (∀ j, j < k → l'[j]? = some X) ∧
    w'.ownsRow w.heap.size 23 3 (.slice aA L.length cA) L.length (rowOf l') ∧ w'.ownsRow w1.heap.size 23 3 (.slice aB L.length cB) L.length (rowOf L) ∧
    w'.cell? ⟨w4.heap.size, 0, none⟩ = some (.int .i64 (-1)) ∧ w'.cell? ⟨w4.heap.size, 1, none⟩ = some (.int .i64 0) ∧ w'.cell? ⟨w4.heap.size, 2, none⟩ = some (.string ⟨#[]⟩) ∧
    Below w.heap.size w w' ∧ w4.heap.size < w'.heap.size) (fun i _ => L.length - (intOf i).toNat)
  case atStart => exact ⟨0, L, rfl, Nat.zero_le _, rfl, fun j hj => by omega, owna2.alloc _, ownb.alloc _, hx0, hx1, hx2, hb12.alloc (by omega) _, by simp⟩
  case round =>
    clear hx0 hx1 hx2
    obtain ⟨k, l', rfl, hk, hl', hset, owna, ownb2, hx0, hx1, hx2, hbel, hB⟩ := hrel
    have HS : Hid _ := hset
    clear hset
    by_cases hlt : k < L.length
    · obtain ⟨g, cap, hv, -, hgl⟩ := owna.form (by omega)
      simp only [Value.slice.injEq] at hv
      obtain ⟨rfl, -, rfl⟩ := hv
      have hgb := ha1 g rfl
      obtain ⟨p0, p1, p2⟩ := own_cells (l := l') (by rw [hl']; exact owna) k (by omega)
      have f0 := owna.frozenAt (k * 3)
      have f1 := owna.frozenAt (k * 3 + 1)
      have f2 := owna.frozenAt (k * 3 + 2)
      go_wp2
      have hS := HS.out
      have hne : g ≠ w4.heap.size := by omega
      refine ⟨⟨k + 1, l'.set k X, by go_num, by omega, by simpa using hl', ?_, own_store owna k (by omega) X, ?_, ?_, ?_, ?_, ?_, by simpa using hB⟩, by simp [intOf]; omega⟩
      · intro j hj
        by_cases hjk : j = k
        · subst hjk; rw [List.getElem?_set_self (by omega)]
        · rw [List.getElem?_set_ne (by omega)]; exact hS j (by omega)
      · exact ownsRow_setCell_below (ownsRow_setCell_below (ownsRow_setCell_below ownb2 hgb.2 _) hgb.2 _) hgb.2 _
      · rw [World.cell?_setCell_far _ _ _ _ hne, World.cell?_setCell_far _ _ _ _ hne, World.cell?_setCell_far _ _ _ _ hne]; exact hx0
      · rw [World.cell?_setCell_far _ _ _ _ hne, World.cell?_setCell_far _ _ _ _ hne, World.cell?_setCell_far _ _ _ _ hne]; exact hx1
      · rw [World.cell?_setCell_far _ _ _ _ hne, World.cell?_setCell_far _ _ _ _ hne, World.cell?_setCell_far _ _ _ _ hne]; exact hx2
      · exact ((hbel.setCell hgb.1 _).setCell hgb.1 _).setCell hgb.1 _
    · have hk' : k = L.length := by omega
      have hall : rowOf l' = xs L.length := by
        refine congrArg rowOf (List.ext_getElem? fun j => ?_)
        by_cases hj : j < L.length
        · rw [HS.out j (by omega), List.getElem?_replicate, if_pos hj]
        · rw [List.getElem?_eq_none (by omega), List.getElem?_eq_none (by simp; omega)]
      rw [hall] at owna
      have st : St w w1.heap.size w4.heap.size L.length (.slice aA L.length cA) (.slice aB L.length cB) L wr := ⟨owna, ownb2, hx0, hx1, hx2, hbel, hB⟩
      clear hall owna hk' hl' HS owna2 ownb ownb2 hbel hb12
      go_wp2_with (at_builtin; refine wpList_append_X _ rfl _ _ rfl w.heap.size _ L.length rfl (World.ownsRow.alloc st.oa _) ⟨wr.heap.size, 0, none⟩ 1 1 rfl (news_blk _ _ (by simp) 1 _ rfl _) (by omega) (by omega) (by have := st.bel.size; simp; omega) ?_)
      intro g1 c1 w5 o1 hg hk lt1
      have st5 := st.step ha1 hsz hg hk
      have y0 := st5.x0
      have y1 := st5.x1
      have y2 := st5.x2
      have sz5 := st5.bel.size
      clear st hg hk hx0 hx1 hx2 hB
      go_wp2_with (at_builtin; refine wpList_append_X _ rfl _ _ rfl w.heap.size _ L.length rfl (World.ownsRow.alloc st5.oa _) ⟨w5.heap.size, 0, none⟩ 2 2 rfl (news_blk _ _ (by simp) 2 _ rfl _) (by omega) (by omega) (by simp; omega) ?_)
      intro g2 c2 w6 o2 hg hk lt2
      have st6 := st5.step ha1 hsz hg hk
      have o1' := hk _ _ _ (World.ownsRow.alloc o1 _)
      have z0 := st6.x0
      have z1 := st6.x1
      have z2 := st6.x2
      have sz6 := st6.bel.size
      clear st5 hg hk y0 y1 y2 sz5 o1 lt1
      go_wp2_with (at_builtin; refine wpList_append_X _ rfl _ _ rfl w.heap.size _ L.length rfl (World.ownsRow.alloc st6.oa _) ⟨w6.heap.size, 0, none⟩ 3 3 rfl (news_blk _ _ (by simp) 3 _ rfl _) (by omega) (by omega) (by simp; omega) ?_)
      intro g3 c3 w7 o3 hg hk lt3
      have st7 := st6.step ha1 hsz hg hk
      have o1'' := hk _ _ _ (World.ownsRow.alloc o1' _)
      have o2' := hk _ _ _ (World.ownsRow.alloc o2 _)
      clear st6 hg hk z0 z1 z2 sz6 o1' o2 lt2
      go_wp2_with fail
      refine (fDecode_any s _ (by omega)).mono ?_
      rintro e w8 ⟨vc, rfl, ownc, b8⟩
      rw [HLL.out] at ownc
      have ob8 := kept_below st7.ob b8
      go_wp2_with fail
      refine (sameRecords_own vc _ _ _ _ _ (by omega) ownc ob8).mono ?_
      rintro e w9 ⟨rfl, m9, hw9⟩
      have b9 : Below w7.heap.size w7 w9 := by rw [hw9]; exact below_drewN' b8
      have bel9 : Below w.heap.size w w9 := by rw [hw9]; exact below_drewN' (st7.bel.trans (b8.mono (by have := st7.bel.size; omega)))
      have oa9 : ownX w9 w.heap.size (.slice aA L.length cA) L.length := kept_below st7.oa b9
      have o19 : ownX w9 w.heap.size (.slice (some ⟨g1, 0, none⟩) (L.length + 1) c1) (L.length + 1) := kept_below o1'' b9
      have o29 : ownX w9 w.heap.size (.slice (some ⟨g2, 0, none⟩) (L.length + 2) c2) (L.length + 2) := kept_below o2' b9
      have o39 : ownX w9 w.heap.size (.slice (some ⟨g3, 0, none⟩) (L.length + 3) c3) (L.length + 3) := kept_below o3 b9
      have hq : ∀ (i : Nat) (v : Value), w7.cell? ⟨w4.heap.size, i, none⟩ = some v → w9.cell? ⟨w4.heap.size, i, none⟩ = some v := fun i v hv => cell_later b9 hv
      have q0 := hq _ _ st7.x0
      have q1 := hq _ _ st7.x1
      have q2 := hq _ _ st7.x2
      clear st7 b8 b9 ownc ob8 hw9 hq o1'' o2' o3
      go_wp2
      go_loopw [9, 18] (fun sm i w' => ∃ k m : Nat, k ≤ L.length + 3 ∧ sm = .bool true ∧ i = .int .i64 k ∧ w' = w9.drewN m) (fun _ i _ => L.length + 3 - (intOf i).toNat)
      case atStart => exact ⟨0, 0, Nat.zero_le _, rfl, rfl, rfl⟩
      case round =>
        obtain ⟨k, m, hk, rfl, rfl, rfl⟩ := hrel
        by_cases hlt : k < L.length + 3
        · obtain ⟨r0, r1, r2⟩ := ownX_cells o39 k hlt
          have ik : (0 : Int) ≤ (k : Int) := by omega
          have i3 : (k : Int) < (L.length : Int) + 3 := by omega
          by_cases h2 : k < L.length + 2
          · obtain ⟨s0, s1, s2⟩ := ownX_cells o29 k h2
            have i2 : (k : Int) < (L.length : Int) + 2 := by omega
            have d2 : decide ((L.length : Int) + 2 ≤ (k : Int)) = false := by simp; omega
            by_cases h1 : k < L.length + 1
            · obtain ⟨t0, t1, t2⟩ := ownX_cells o19 k h1
              have i1 : (k : Int) < (L.length : Int) + 1 := by omega
              have d1 : decide ((L.length : Int) + 1 ≤ (k : Int)) = false := by simp; omega
              by_cases h0 : k < L.length
              · have i0 : (k : Int) < (L.length : Int) := by omega
                have d0 : decide ((L.length : Int) ≤ (k : Int)) = false := by simp; omega
                obtain ⟨g, cap, hv, -, -⟩ := World.ownsRow.form oa9 (by omega)
                simp only [Value.slice.injEq] at hv
                obtain ⟨rfl, -, rfl⟩ := hv
                obtain ⟨u0, u1, u2⟩ := ownX_cells oa9 k h0
                clear oa9 o19 o29 o39
                go_wp2
                go_quiet (fail)
                go_wp2
                exact ⟨⟨k + 1, m + nq, by omega, rfl, by go_num, rfl⟩, by simp [intOf]; omega⟩
              · have i0 : (L.length : Int) ≤ (k : Int) := by omega
                have d0 : decide ((L.length : Int) ≤ (k : Int)) = true := by simp; omega
                clear oa9 o19 o29 o39
                go_wp2
                go_quiet (fail)
                go_wp2
                exact ⟨⟨k + 1, m + nq, by omega, rfl, by go_num, rfl⟩, by simp [intOf]; omega⟩
            · have i1 : (L.length : Int) + 1 ≤ (k : Int) := by omega
              have d1 : decide ((L.length : Int) + 1 ≤ (k : Int)) = true := by simp; omega
              have i0 : (L.length : Int) ≤ (k : Int) := by omega
              have d0 : decide ((L.length : Int) ≤ (k : Int)) = true := by simp; omega
              clear oa9 o19 o29 o39
              go_wp2
              go_quiet (fail)
              go_wp2
              exact ⟨⟨k + 1, m + nq, by omega, rfl, by go_num, rfl⟩, by simp [intOf]; omega⟩
          · have i2' : (L.length : Int) + 2 ≤ (k : Int) := by omega
            have d2 : decide ((L.length : Int) + 2 ≤ (k : Int)) = true := by simp; omega
            have i1 : (L.length : Int) + 1 ≤ (k : Int) := by omega
            have d1 : decide ((L.length : Int) + 1 ≤ (k : Int)) = true := by simp; omega
            have i0 : (L.length : Int) ≤ (k : Int) := by omega
            have d0 : decide ((L.length : Int) ≤ (k : Int)) = true := by simp; omega
            clear oa9 o19 o29 o39
            go_wp2
            go_quiet (fail)
            go_wp2
            exact ⟨⟨k + 1, m + nq, by omega, rfl, by go_num, rfl⟩, by simp [intOf]; omega⟩
        · clear oa9 o19 o29 o39
          go_wp2
          go_ret
          exact ⟨rfl, below_drewN' bel9⟩
end Go.Proofs.Ytlafkpaljibonaa

namespace Go.Proofs.Ytlafkpaljibonaa
open Go.RowKit

/-- A slice of records that came in. -/
def IsRecs (w : World) (a : Option Addr) (len : Nat) (R : Nat → Rec) : Prop :=
  len = 0 ∨ ∃ b off, a = some ⟨b, off, none⟩ ∧ b < w.heap.size ∧ ∀ k, k < len →
    w.cell? ⟨b, off + k * 3, none⟩ = some (.int .i64 (R k).1) ∧ w.cell? ⟨b, off + k * 3 + 1, none⟩ = some (.int .i64 (R k).2.1) ∧ w.cell? ⟨b, off + k * 3 + 2, none⟩ = some (.string (R k).2.2) ∧
    (-9223372036854775808 ≤ (R k).1 ∧ (R k).1 ≤ 9223372036854775807) ∧ (-9223372036854775808 ≤ (R k).2.1 ∧ (R k).2.1 ≤ 9223372036854775807)

/-- A slice of integers that came in. -/
def IsInts (w : World) (a : Option Addr) (len : Nat) (P : Nat → Int) : Prop :=
  len = 0 ∨ ∃ b off, a = some ⟨b, off, none⟩ ∧ b < w.heap.size ∧ ∀ k, k < len → w.cell? ⟨b, off + k, none⟩ = some (.int .i64 (P k)) ∧ (-9223372036854775808 ≤ P k ∧ P k ≤ 9223372036854775807)

def shR (r : Rec) : Rec := (shK r.1, shI r.2.1, shC r.2.2)

theorem shC_size (c : ByteArray) : (shC c).size ≤ 200 := by
  unfold shC shortB
  split
  · rw [ByteArray.size_extract]; omega
  · omega

theorem shR_good (r : Rec) (p : List Int) (hp : p.length ≤ 7) : Good (shR r) p := by
  have h1 := kindAt_ok (pickI r.1 5)
  have h2 := pickI_bd r.2.1 65535 (by omega)
  have h3 := shC_size r.2.2
  refine ⟨?_, hp⟩
  unfold allowedB shR shK shI
  simp [h1]
  omega

/-- The padding of the record number j. -/
def padN (n : Nat) (P : Nat → Int) (j : Nat) : Nat := if j < n then (pickI (P j) 8).toNat else 0

theorem padN_le (n : Nat) (P : Nat → Int) (j : Nat) : padN n P j ≤ 7 := by
  unfold padN
  split
  · have := pickI_bd (P j) 8 (by omega); omega
  · omega

def recsTo (R : Nat → Rec) (n : Nat) (P : Nat → Int) (m : Nat) : List (Rec × List Int) := (List.range m).map fun j => (shR (R j), padL (padN n P j))

theorem recsTo_succ (R : Nat → Rec) (n : Nat) (P : Nat → Int) (m : Nat) : recsTo R n P (m + 1) = recsTo R n P m ++ [(shR (R m), padL (padN n P m))] := by
  simp [recsTo, List.range_succ]
theorem recsTo_length (R : Nat → Rec) (n : Nat) (P : Nat → Int) (m : Nat) : (recsTo R n P m).length = m := by simp [recsTo]
theorem recsTo_good (R : Nat → Rec) (n : Nat) (P : Nat → Int) (m : Nat) : ∀ x ∈ recsTo R n P m, Good x.1 x.2 := by
  intro x hx
  simp only [recsTo, List.mem_map] at hx
  obtain ⟨j, _, rfl⟩ := hx
  exact shR_good _ _ (by rw [padL_length]; exact padN_le n P j)

theorem padN_lt {n : Nat} {P : Nat → Int} {j : Nat} (h : j < n) : (padN n P j : Int) = pickI (P j) 8 := by
  have := pickI_bd (P j) 8 (by omega)
  unfold padN; rw [if_pos h]; omega
theorem padN_ge {n : Nat} {P : Nat → Int} {j : Nat} (h : ¬ j < n) : padN n P j = 0 := by unfold padN; rw [if_neg h]

theorem encB_good {k i : Int} {c : ByteArray} (h : allowedB k i c.size = true) : encB k i c = enc k i c [] ∧ encE k i c = 0 := by simp [encB, encE, h]

/-- The facts that are carried through a round. -/
structure Rd (w W : World) (B m : Nat) (v : Value) (K I : Int) (C : ByteArray) (l : List Rec) : Prop where
  own : W.ownsRow w.heap.size 23 3 v m (rowOf l)
  c0 : W.cell? ⟨B, 0, none⟩ = some (.int .i64 K)
  c1 : W.cell? ⟨B, 1, none⟩ = some (.int .i64 I)
  c2 : W.cell? ⟨B, 2, none⟩ = some (.string C)
  bel : Below w.heap.size w W

theorem Rd.next {w W W' : World} {B m : Nat} {v : Value} {K I : Int} {C : ByteArray} {l : List Rec} (h : Rd w W B m v K I C l) (hb : Below W.heap.size W W') : Rd w W' B m v K I C l :=
  ⟨kept_below h.own hb, cell_later hb h.c0, cell_later hb h.c1, cell_later hb h.c2, h.bel.trans (hb.mono h.bel.size)⟩

theorem Rd.start {w W : World} {m : Nat} {v : Value} {K I : Int} {C : ByteArray} {l : List Rec} (own : W.ownsRow w.heap.size 23 3 v m (rowOf l)) (bel : Below w.heap.size w W) (T : TypeId) :
    Rd w (W.alloc (.cells #[.int .i64 K, .int .i64 I, .string C] T)) W.heap.size m v K I C l :=
  ⟨own.alloc _, by rw [World.cell?_alloc_at _ _ _ _ rfl]; rfl, by rw [World.cell?_alloc_at _ _ _ _ rfl]; rfl, by rw [World.cell?_alloc_at _ _ _ _ rfl]; rfl, bel.alloc bel.size _⟩

theorem encAll_append (a b : List (Rec × List Int)) : encAll (a ++ b) = encAll a ++ encAll b := by simp [encAll]
theorem encAll_one (x : Rec × List Int) : encAll [x] = encL x.1 x.2 := by simp [encAll]

theorem encAll_size (R : Nat → Rec) (n : Nat) (P : Nat → Int) (m : Nat) : (encAll (recsTo R n P m)).length ≤ 215 * m := by
  induction m with
  | zero => simp [recsTo, encAll]
  | succ m ih =>
    rw [recsTo_succ, encAll_append, encAll_one, List.length_append, encL_length, padL_length]
    have := padN_le n P m
    have := shC_size (R m).2.2
    simp only [shR]
    omega

def sTo (R : Nat → Rec) (n : Nat) (P : Nat → Int) (m : Nat) : ByteArray := strOfNums (encAll (recsTo R n P m))
def wantTo (R : Nat → Rec) (m : Nat) : List Rec := (List.range m).map fun j => shR (R j)

theorem wantTo_eq (R : Nat → Rec) (n : Nat) (P : Nat → Int) (m : Nat) : (recsTo R n P m).map (·.1) = wantTo R m := by simp [recsTo, wantTo]
theorem wantTo_succ (R : Nat → Rec) (m : Nat) : wantTo R (m + 1) = wantTo R m ++ [shR (R m)] := by simp [wantTo, List.range_succ]
theorem wantTo_length (R : Nat → Rec) (m : Nat) : (wantTo R m).length = m := by simp [wantTo]

theorem sTo_size (R : Nat → Rec) (n : Nat) (P : Nat → Int) (m : Nat) : (sTo R n P m).size ≤ 215 * m := by
  unfold sTo; rw [strOfNums_size]; exact encAll_size R n P m

theorem sTo_succ (R : Nat → Rec) (n : Nat) (P : Nat → Int) (m : Nat) :
    sTo R n P m ++ enc (shK (R m).1) (shI (R m).2.1) (shC (R m).2.2) (padL (padN n P m)) = sTo R n P (m + 1) := by
  rw [enc_encL]
  unfold sTo
  rw [strOfNums_append, recsTo_succ, encAll_append, encAll_one]
  rfl

theorem back_tail (R : Nat → Rec) (n : Nat) (P : Nat → Int) (m : Nat) (K I : Int) (C : ByteArray) (less : Int) (q : Nat) (hal : allowedB K I C.size = true) (hq : q ≤ 7) :
    decL (sTo R n P m ++ tailB K I C less q) = wantTo R m ∧ decN (sTo R n P m ++ tailB K I C less q) = (sTo R n P m).size ∧ decE (sTo R n P m ++ tailB K I C less q) = 0 := by
  have pb := pickI_bd less (8 + C.size + q : Nat) (by omega)
  have hg : Good (K, I, C) (padL q) := ⟨hal, by rw [padL_length]; exact hq⟩
  have hlen := encL_length (K, I, C) (padL q)
  rw [padL_length] at hlen
  unfold tailB
  rw [enc_encL, str_extract]
  simp only [List.drop_zero, Nat.sub_zero]
  generalize hM : (((8 + C.size + q : Nat) : Int) - 1 - pickI less (8 + C.size + q : Nat)).toNat = M
  have hc := code_tail (K, I, C) (padL q) hg M (by rw [hlen]; simp only; omega)
  unfold sTo
  rw [strOfNums_append]
  have := dec_all (recsTo R n P m) (recsTo_good R n P m) (List.take M (encL (K, I, C) (padL q))) 0 (fun f hf s i hl => dec_zero (by rw [hl]; exact hc))
  rw [wantTo_eq] at this
  rw [strOfNums_size]
  exact this

theorem back_wrong (R : Nat → Rec) (n : Nat) (P : Nat → Int) (m : Nat) (j : Int) :
    decL (sTo R n P m ++ wrongAt j) = wantTo R m ∧ decN (sTo R n P m ++ wrongAt j) = (sTo R n P m).size ∧ decE (sTo R n P m ++ wrongAt j) = 7 := by
  have hc := code_wrong j
  rw [wrong_str j] at hc ⊢
  generalize nums (wrongAt j) = t at *
  unfold sTo
  rw [strOfNums_append]
  have := dec_all (recsTo R n P m) (recsTo_good R n P m) t 7 (fun f hf s i hl => by
    obtain ⟨f', rfl⟩ : ∃ f', f = f' + 1 := ⟨f - 1, by omega⟩
    exact dec_one (by rw [hl]; exact hc))
  rw [wantTo_eq] at this
  rw [strOfNums_size]
  exact this

theorem tailB_size (K I : Int) (C : ByteArray) (less : Int) (q : Nat) (hC : C.size ≤ 200) (hq : q ≤ 7) : (tailB K I C less q).size ≤ 300 := by
  unfold tailB
  rw [ByteArray.size_extract, enc_size, padL_length]; omega

theorem wrongAt_size (j : Int) : (wrongAt j).size ≤ 300 := by
  unfold wrongAt
  repeat' split
  all_goals decide +kernel

set_option maxRecDepth 100000 in
set_option maxHeartbeats 4000000 in
theorem back_any (aL aP : Option Addr) (nL cL nP cP : Nat) (R : Nat → Rec) (P : Nat → Int) (less bad : Int) (w : World) (hL : IsRecs w aL nL R) (hP : IsInts w aP nP P) (mL : nL ≤ 9223372036854775807)
    (l0 : -9223372036854775808 ≤ less) (l1 : less ≤ 9223372036854775807) (b0 : -9223372036854775808 ≤ bad) (b1 : bad ≤ 9223372036854775807) :
    Calls Try.prog 4 #[.slice aL nL cL, .slice aP nP cP, .int .i64 less, .int .i64 bad] w fun e w' => e = .returned (.bool true) ∧ Below w.heap.size w w' := by
  obtain ⟨i0, hi, hz0, hz1, hz2⟩ := info_parts info23
  go_enter Try.func4, Try.ntmps4
  go_wp2
  go_loopw [9, 10, 11] (fun s v i w' => ∃ m : Nat, m ≤ 50 ∧ m ≤ nL ∧ i = .int .i64 m ∧ s = .string (sTo R nP P m) ∧ w'.ownsRow w.heap.size 23 3 v m (rowOf (wantTo R m)) ∧ Below w.heap.size w w') (fun _ _ i _ => 50 - (intOf i).toNat)
  case atStart => exact ⟨0, by omega, by omega, rfl, rfl, World.ownsRow_nil _ _ _ _, Below.refl _ _⟩
  case round =>
    obtain ⟨m, hm, hmL, rfl, rfl, hown, hbel⟩ := hrel
    have hbase := hbel.size
    by_cases hlt : m < nL ∧ m < 50
    · obtain ⟨hlt1, hlt2⟩ := hlt
      rcases hL with hL | ⟨b, off, rfl, hb, hcells⟩
      · omega
      obtain ⟨q0, q1, q2, qk, qi⟩ := hcells m hlt1
      have r0 : wr.cell? ⟨b, off + m * 3, none⟩ = some (.int .i64 (R m).1) := by rw [hbel.cell hb]; exact q0
      have r1 : wr.cell? ⟨b, off + m * 3 + 1, none⟩ = some (.int .i64 (R m).2.1) := by rw [hbel.cell hb]; exact q1
      have r2 : wr.cell? ⟨b, off + m * 3 + 2, none⟩ = some (.string (R m).2.2) := by rw [hbel.cell hb]; exact q2
      clear q0 q1 q2 hcells
      have hlt1' : (m : Int) < (nL : Int) := by omega
      have hlt2' : (m : Int) < 50 := by omega
      go_wp2_with fail
      refine (shaped_any (R m).1 (R m).2.1 (R m).2.2 _ qk.1 qk.2 qi.1 qi.2).mono ?_
      rintro e w1 ⟨rfl, hb1⟩
      have hgood := shR_good (R m) (padL (padN nP P m)) (by rw [padL_length]; exact padN_le nP P m)
      have hal : allowedB (shK (R m).1) (shI (R m).2.1) (shC (R m).2.2).size = true := hgood.al
      obtain ⟨eb1, eb2⟩ := encB_good hal
      have hsucc := sTo_succ R nP P m
      have hwant := wantTo_succ R m
      have hpl := padN_le nP P m
      have hsz := sTo_size R nP P m
      have hwl := wantTo_length R m
      rw [show shR (R m) = (shK (R m).1, shI (R m).2.1, shC (R m).2.2) from rfl] at hwant
      clear hgood
      generalize shK (R m).1 = K at *
      generalize shI (R m).2.1 = I at *
      generalize shC (R m).2.2 = C at *
      obtain ⟨-, k1, k6, i1, i2, c1⟩ := allowedB_bd hal
      have rd := Rd.start (K := K) (I := I) (C := C) (kept_below hown hb1) (hbel.trans (hb1.mono hbase)) 23
      have hbs := hb1.size
      clear hown hb1
      have HE1 : Hid _ := eb1
      have HE2 : Hid _ := eb2
      have HS : Hid _ := hsucc
      have HW : Hid _ := hwant
      have HWL : Hid _ := hwl
      have HAL : Hid _ := hal
      clear eb1 eb2 hsucc hwant hwl hal
      have hpw : ∀ wx, Calls Try.prog 16 #[.int .i64 K, .int .i64 I, .string C, .int .i64 (padN nP P m)] wx fun r w' => r = .returned (.string (enc K I C (padL (padN nP P m)))) ∧ Below wx.heap.size wx w' := fun wx => bytes_any K I C (padN nP P m) wx ⟨k1, k6⟩ ⟨i1, i2⟩ c1 hpl
      have HB : Hid _ := hpw
      have hesz := enc_size K I C (padL (padN nP P m))
      rw [padL_length] at hesz
      clear hpw
      -- both ways to the padding come to one form
      by_cases hp : m < nP
      · rcases hP with hP | ⟨pb, po, rfl, hpb, hints⟩
        · omega
        obtain ⟨z0, zb⟩ := hints m hp
        have y0 : (w1.alloc (.cells #[.int .i64 K, .int .i64 I, .string C] 23)).cell? ⟨pb, po + m, none⟩ = some (.int .i64 (P m)) := by rw [rd.bel.cell hpb]; exact z0
        clear hints z0
        have hp' : (m : Int) < (nP : Int) := by omega
        go_wp2_with fail
        refine (pick_any (P m) 8 _ zb.1 zb.2 (by omega) (by omega)).mono ?_
        rintro e w' ⟨rfl, rfl⟩
        rw [← padN_lt hp]
        go_wp2_with fail
        refine (fEncode_any K I C _).mono ?_
        rintro e w2 ⟨rfl, g2⟩
        rw [HE1.out, HE2.out]
        have rd2 := rd.next g2
        clear rd g2
        obtain ⟨own2, x0, x1, x2, bel2⟩ := rd2
        have rd2 : Hid (Rd w w2 w1.heap.size m u10 K I C (wantTo R m)) := ⟨own2, x0, x1, x2, bel2⟩
        clear own2 bel2
        go_wp2_with fail
        refine (bytes_any K I C 0 _ ⟨k1, k6⟩ ⟨i1, i2⟩ c1 (by omega)).mono ?_
        rintro e w3 ⟨rfl, g3⟩
        rw [show padL 0 = [] from rfl]
        have rd3 := rd2.out.next g3
        clear rd2 g3 x0 x1 x2
        obtain ⟨own3, x0, x1, x2, bel3⟩ := rd3
        have rd3 : Hid (Rd w w3 w1.heap.size m u10 K I C (wantTo R m)) := ⟨own3, x0, x1, x2, bel3⟩
        clear own3 bel3
        go_wp2_with fail
        refine (HB.out _).mono ?_
        rintro e w4 ⟨rfl, g4⟩
        have rd4 := rd3.out.next g4
        clear rd3 g4 x0 x1 x2
        obtain ⟨own4, x0, x1, x2, bel4⟩ := rd4
        have sz4 := bel4.size
        generalize enc K I C (padL (padN nP P m)) = E at *
        go_wp2_with (at_builtin; refine wpList_append_own _ rfl _ _ 32 rfl w.heap.size 23 i0 (.agg #[.int .i64 0, .int .i64 0, .string ⟨#[]⟩]) 3 32 Try.underlying32 hi hz0 hz1 hz2 rfl (by omega) u10 m (rowOf (wantTo R m)) rfl (own4.alloc _) ⟨w4.heap.size, 0, none⟩ 1 1 (rcells (K, I, C)) rfl rfl (news_rec _ _ (by simp) (K, I, C) _) (one_rec (K, I, C)) (by unfold maxLen; omega) (by omega) (by simp; omega) ?_)
        intro v' w5 own5 hgrow _
        go_wp2
        refine ⟨⟨m + 1, by omega, by omega, by go_num, by rw [← HS.out], ?_, ?_⟩, by simp [intOf]; omega⟩
        · rw [HW.out, rowOf_append, rowOf_one]; exact own5
        · refine (bel4.alloc (by omega) _).grown hgrow (by simp; omega) ?_
          intro b' hbk
          exact (own4.lt b' hbk).1
      · rw [padN_ge hp] at HB HS hesz
        go_wp2_with fail
        refine (fEncode_any K I C _).mono ?_
        rintro e w2 ⟨rfl, g2⟩
        rw [HE1.out, HE2.out]
        have rd2 := rd.next g2
        clear rd g2
        obtain ⟨own2, x0, x1, x2, bel2⟩ := rd2
        have rd2 : Hid (Rd w w2 w1.heap.size m u10 K I C (wantTo R m)) := ⟨own2, x0, x1, x2, bel2⟩
        clear own2 bel2
        go_wp2_with fail
        refine (bytes_any K I C 0 _ ⟨k1, k6⟩ ⟨i1, i2⟩ c1 (by omega)).mono ?_
        rintro e w3 ⟨rfl, g3⟩
        rw [show padL 0 = [] from rfl]
        have rd3 := rd2.out.next g3
        clear rd2 g3 x0 x1 x2
        obtain ⟨own3, x0, x1, x2, bel3⟩ := rd3
        have rd3 : Hid (Rd w w3 w1.heap.size m u10 K I C (wantTo R m)) := ⟨own3, x0, x1, x2, bel3⟩
        clear own3 bel3
        go_wp2_with fail
        refine (HB.out _).mono ?_
        rintro e w4 ⟨rfl, g4⟩
        have rd4 := rd3.out.next g4
        clear rd3 g4 x0 x1 x2
        obtain ⟨own4, x0, x1, x2, bel4⟩ := rd4
        have sz4 := bel4.size
        generalize enc K I C (padL 0) = E at *
        go_wp2_with (at_builtin; refine wpList_append_own _ rfl _ _ 32 rfl w.heap.size 23 i0 (.agg #[.int .i64 0, .int .i64 0, .string ⟨#[]⟩]) 3 32 Try.underlying32 hi hz0 hz1 hz2 rfl (by omega) u10 m (rowOf (wantTo R m)) rfl (own4.alloc _) ⟨w4.heap.size, 0, none⟩ 1 1 (rcells (K, I, C)) rfl rfl (news_rec _ _ (by simp) (K, I, C) _) (one_rec (K, I, C)) (by unfold maxLen; omega) (by omega) (by simp; omega) ?_)
        intro v' w5 own5 hgrow _
        go_wp2
        refine ⟨⟨m + 1, by omega, by omega, by go_num, by rw [← HS.out], ?_, ?_⟩, by simp [intOf]; omega⟩
        · rw [HW.out, rowOf_append, rowOf_one]; exact own5
        · refine (bel4.alloc (by omega) _).grown hgrow (by simp; omega) ?_
          intro b' hbk
          exact (own4.lt b' hbk).1
    · have hsz := sTo_size R nP P m
      have hwl := wantTo_length R m
      have HWL : Hid _ := hwl
      clear hwl hL hP
      have hcond : (nL : Int) ≤ (m : Int) ∨ ((m : Int) < (nL : Int) ∧ (50 : Int) ≤ (m : Int)) := by omega
      clear hlt
      rcases hcond with hcond | ⟨hcond, hcond2⟩
      all_goals
        go_wp2_with fail
        refine (shaped_any bad less ⟨#[97, 98]⟩ _ b0 b1 l0 l1).mono ?_
        rintro e w1 ⟨rfl, hb1⟩
        have hal : allowedB (shK bad) (shI less) (shC ⟨#[97, 98]⟩).size = true := (shR_good (bad, less, ⟨#[97, 98]⟩) [] (by simp)).al
        have rd := Rd.start (K := shK bad) (I := shI less) (C := shC ⟨#[97, 98]⟩) (kept_below hown hb1) (hbel.trans (hb1.mono hbase)) 23
        clear hown hb1 hbel
        generalize shK bad = K at *
        generalize shI less = I at *
        generalize shC ⟨#[97, 98]⟩ = C at *
        obtain ⟨-, k1, k6, i1, i2, c1⟩ := allowedB_bd hal
        obtain ⟨q, hq⟩ : ∃ q : Nat, pickI bad 8 = (q : Int) := ⟨(pickI bad 8).toNat, by have := pickI_bd bad 8 (by omega); omega⟩
        have hq7 : q ≤ 7 := by have := pickI_bd bad 8 (by omega); omega
        have cq := fun wx => pick_any bad 8 wx b0 b1 (by omega) (by omega)
        rw [hq] at cq
        have ct := fun wx => tail_any K I C less q wx ⟨k1, k6⟩ ⟨i1, i2⟩ c1 hq7 l0 l1
        have cw := fun wx => wrong_any bad wx b0 b1
        have ht1 := back_tail R nP P m K I C less q hal hq7
        have hw1 := back_wrong R nP P m (pickI bad 9)
        have ts := tailB_size K I C less q (by omega) hq7
        have wsz := wrongAt_size (pickI bad 9)
        generalize tailB K I C less q = T at *
        generalize wrongAt (pickI bad 9) = V at *
        have CQ : Hid _ := cq
        have CT : Hid _ := ct
        have CW : Hid _ := cw
        have HT : Hid _ := ht1
        have HV : Hid _ := hw1
        have HQ : Hid _ := hq
        clear cq ct cw ht1 hw1 hal hq
        generalize sTo R nP P m = SS at *
        have hss : SS.size ≤ 20000 := by omega
        have hcat : ¬ (9223372036854775807 < SS.size + T.size) := by omega
        have hcat2 : ¬ (9223372036854775807 < SS.size + V.size) := by omega
        clear hsz
        go_wp2_with fail
        generalize w1.alloc (.cells #[.int .i64 K, .int .i64 I, .string C] 23) = W1 at *
        refine wp_region_noPanic ?_
        refine wp_region_held_drew (S := fun w' => Rd w w' w1.heap.size m u10 K I C (wantTo R m)) (by kernel_rfl) ⟨rd.own, rd.c0, rd.c1, rd.c2, rd.bel.drew⟩ (fun hHeld => ?_)
        refine take_at (i := 0) (v := ?_) rfl (by kernel_rfl) (by kernel_rfl) (by kernel_rfl) (fun _ _ _ h => h) (by rfl) ?_ (by assumption) ?_
        rotate_left
        · (intro w hSw; go_simp; with_reducible rfl)
        simp only [Act.put, List.setIfInBounds_toArray, List.set_cons_zero, List.set_cons_succ]
        refine take_at (i := 1) (v := ?_) rfl (by kernel_rfl) (by kernel_rfl) (by kernel_rfl) (fun _ _ _ h => h) (by rfl) ?_ (by assumption) ?_
        rotate_left
        · (intro wx hSw; obtain ⟨-, x0, x1, x2, -⟩ := hSw; go_simp; with_reducible rfl)
        simp only [Act.put, List.setIfInBounds_toArray, List.set_cons_zero, List.set_cons_succ]
        refine take_at (i := 2) (v := ?_) rfl (by kernel_rfl) (by kernel_rfl) (by kernel_rfl) (fun _ _ _ h => h) (by rfl) ?_ (by assumption) ?_
        rotate_left
        · (intro w hSw; go_simp; with_reducible rfl)
        simp only [Act.put, List.setIfInBounds_toArray, List.set_cons_zero, List.set_cons_succ]
        refine take_at (i := 3) (v := ?_) rfl (by kernel_rfl) (by kernel_rfl) (by kernel_rfl) (fun _ _ _ h => h) (by rfl) ?_ (by assumption) ?_
        rotate_left
        · (intro w hSw; go_simp; with_reducible rfl)
        simp only [Act.put, List.setIfInBounds_toArray, List.set_cons_zero, List.set_cons_succ]
        refine only_at (i := 4) rfl (by kernel_rfl) (by rfl) (fun K' hK => ?_)
        go_simp
        refine (CQ.out _).mono ?_
        rintro e w' ⟨rfl, rfl⟩
        refine hK.out _ _ hHeld ?_
        clear hK K'
        refine only_at (i := 5) rfl (by kernel_rfl) (by rfl) (fun K' hK => ?_)
        go_simp
        refine (CT.out _).mono ?_
        rintro e w2 ⟨rfl, g2⟩
        have hHeld2 := Rd.next hHeld g2
        refine hK.out _ _ hHeld2 ?_
        clear hK K' hHeld g2 rd
        refine take_at (i := 6) (v := ?_) rfl (by kernel_rfl) (by kernel_rfl) (by kernel_rfl) (fun _ _ _ h => h) (by rfl) ?_ (by assumption) ?_
        rotate_left
        · (intro w hSw; go_simp; with_reducible rfl)
        simp only [Act.put, List.setIfInBounds_toArray, List.set_cons_zero, List.set_cons_succ]
        refine only_at (i := 7) rfl (by kernel_rfl) (by rfl) (fun K' hK => ?_)
        go_simp
        refine (fDecode_any (SS ++ T) _ (by rw [ByteArray.size_append]; omega)).mono ?_
        rintro e w3 ⟨va, rfl, owna, g3⟩
        rw [HT.out.1] at owna
        rw [HT.out.2.1, HT.out.2.2]
        have hHeld3 := Rd.next hHeld2 g3
        refine hK.out _ _ hHeld3 ?_
        clear hK K' hHeld2 g3
        refine take_at (i := 8) (v := ?_) rfl (by kernel_rfl) (by kernel_rfl) (by kernel_rfl) (fun _ _ _ h => h) (by rfl) ?_ (by assumption) ?_
        rotate_left
        · (intro w hSw; go_simp; with_reducible rfl)
        simp only [Act.put, List.setIfInBounds_toArray, List.set_cons_zero, List.set_cons_succ]
        refine take_at (i := 9) (v := ?_) rfl (by kernel_rfl) (by kernel_rfl) (by kernel_rfl) (fun _ _ _ h => h) (by rfl) ?_ (by assumption) ?_
        rotate_left
        · (intro w hSw; go_simp; with_reducible rfl)
        simp only [Act.put, List.setIfInBounds_toArray, List.set_cons_zero, List.set_cons_succ]
        refine take_at (i := 10) (v := ?_) rfl (by kernel_rfl) (by kernel_rfl) (by kernel_rfl) (fun _ _ _ h => h) (by rfl) ?_ (by assumption) ?_
        rotate_left
        · (intro w hSw; go_simp; with_reducible rfl)
        simp only [Act.put, List.setIfInBounds_toArray, List.set_cons_zero, List.set_cons_succ]
        refine take_at (i := 11) (v := ?_) rfl (by kernel_rfl) (by kernel_rfl) (by kernel_rfl) (fun _ _ _ h => h) (by rfl) ?_ (by assumption) ?_
        rotate_left
        · (intro w hSw; go_simp; with_reducible rfl)
        simp only [Act.put, List.setIfInBounds_toArray, List.set_cons_zero, List.set_cons_succ]
        refine only_at (i := 12) rfl (by kernel_rfl) (by rfl) (fun K' hK => ?_)
        go_simp
        refine hK.out _ _ hHeld3 ?_
        clear hK K'
        refine only_at (i := 13) rfl (by kernel_rfl) (by rfl) (fun K' hK => ?_)
        go_simp
        refine hK.out _ _ hHeld3 ?_
        clear hK K'
        refine only_at (i := 14) rfl (by kernel_rfl) (by rfl) (fun K' hK => ?_)
        go_simp
        refine hK.out _ _ hHeld3 ?_
        clear hK K'
        refine wpAnyH_done (by kernel_rfl) ?_ _
        refine NoPanic.normal ?_
        obtain ⟨ownw, -, -, -, bel3⟩ := hHeld3
        rw [HWL.out] at owna
        go_wp2_with fail
        refine (CW.out _).mono ?_
        rintro e w4 ⟨rfl, g4⟩
        have ownw4 := kept_below ownw g4
        have owna4 := kept_below owna g4
        have bel4 := bel3.trans (g4.mono bel3.size)
        clear ownw owna bel3 g4
        go_wp2_with fail
        refine (fDecode_any (SS ++ V) _ (by rw [ByteArray.size_append]; omega)).mono ?_
        rintro e w5 ⟨vb, rfl, ownb, g5⟩
        rw [HV.out.1] at ownb
        rw [HV.out.2.1, HV.out.2.2]
        rw [HWL.out] at ownb
        have ownw5 := kept_below ownw4 g5
        have owna5 := kept_below owna4 g5
        have bel5 := bel4.trans (g5.mono bel4.size)
        clear ownw4 owna4 bel4 g5
        have hself : ((SS.size : Int) != (SS.size : Int)) = false := by simp
        go_wp2_with fail
        refine (same_own va u10 _ _ (wantTo R m) _ (by rw [HWL.out]; omega) (by rw [HWL.out]; exact owna5) (by rw [HWL.out]; exact ownw5)).mono ?_
        rintro e w6 ⟨rfl, n6, h6⟩
        have ownw6 : w6.ownsRow w.heap.size 23 3 u10 m (rowOf (wantTo R m)) := by rw [h6]; exact ownw5
        have ownb6 : w6.ownsRow w4.heap.size 23 3 vb m (rowOf (wantTo R m)) := by rw [h6]; exact ownb
        have bel6 : Below w.heap.size w w6 := by rw [h6]; exact below_drewN' bel5
        clear ownw5 owna5 ownb bel5 h6
        go_wp2_with fail
        refine (same_own vb u10 _ _ (wantTo R m) _ (by rw [HWL.out]; omega) (by rw [HWL.out]; exact ownb6) (by rw [HWL.out]; exact ownw6)).mono ?_
        rintro e w7 ⟨rfl, n7, h7⟩
        have bel7 : Below w.heap.size w w7 := by rw [h7]; exact below_drewN' bel6
        clear h7
        go_wp2
        go_ret
        exact ⟨rfl, bel7⟩
end Go.Proofs.Ytlafkpaljibonaa

namespace Go.Proofs.Ytlafkpaljibonaa
open Go.RowKit

theorem outsB_size (i : Int) : ∀ (f : Nat) (t : ByteArray), (outsB i f t).size ≤ 208 * f
  | 0, _ => by simp [outsB]
  | f + 1, t => by
    unfold outsB
    split
    · simp
    · have := outsB_size i f (t.extract (min t.size 200) t.size)
      have h2 := encB_size 6 i (t.extract 0 (min t.size 200))
      rw [ByteArray.size_append]
      omega

theorem outsB_nil (i : Int) (f : Nat) (t : ByteArray) (h : t.size = 0) : outsB i f t = ByteArray.empty := by
  cases f with
  | zero => rfl
  | succ f => simp [outsB, h]

set_option maxRecDepth 100000 in
set_option maxHeartbeats 4000000 in
theorem outs_any (i : Int) (hi : 1 ≤ i ∧ i ≤ 65535) (s : ByteArray) (hs : s.size ≤ 1000) (w : World) :
    Calls Try.prog 62 #[.int .i64 i, .string s] w fun r w' => r = .returned (.string (outsB i s.size s)) ∧ Below w.heap.size w w' := by
  have kb : Hid (∀ w (t : ByteArray), t.size ≤ 200 → Calls Try.prog 16 #[.int .i64 6, .int .i64 i, .string t, .int .i64 0] w fun r w' => r = .returned (.string (encB 6 i t)) ∧ Below w.heap.size w w') := fun w t ht => by
    have := bytes_any 6 i t 0 w (by omega) hi (by omega) (by omega)
    have e : encB 6 i t = enc 6 i t [] := (encB_good (by simp [allowedB, isKindB]; omega)).1
    rw [e]
    exact this
  go_enter Try.func62, Try.ntmps62
  go_wp2
  go_loopg [1, 5, 6] s.size (fun g tv av _ w' => ∃ T A : ByteArray, tv = .string T ∧ av = .string A ∧ T.size ≤ g ∧ A.size ≤ 208 * (s.size - g) ∧ g ≤ s.size ∧ A ++ outsB i g T = outsB i s.size s ∧ Below w.heap.size w w')
  case atStart => exact ⟨s, ByteArray.empty, rfl, rfl, Nat.le_refl _, by simp, Nat.le_refl _, by simp, Below.refl _ _⟩
  case round =>
    obtain ⟨T, A, rfl, rfl, hTg, hA, hgs, heq, hb⟩ := hrel
    have HE : Hid _ := heq
    clear heq
    by_cases hT : T.size = 0
    · have hn : ¬ ((0 : Int) < T.size) := by omega
      have hfin : Hid (A = outsB i s.size s) := by
        show _ = _
        rw [← HE.out, outsB_nil i gk T hT]
        simp
      clear HE hT
      go_wp2
      go_ret
      have e := hfin.out
      rw [← e]
      exact ⟨rfl, hb⟩
    · have hp : (0 : Int) < T.size := by omega
      obtain ⟨g', hg'⟩ : ∃ g', gk = g' + 1 := ⟨gk - 1, by omega⟩
      have HV : Hid ((A ++ encB 6 i (T.extract 0 (min T.size 200))) ++ outsB i g' (T.extract (min T.size 200) T.size) = outsB i s.size s) := by
        show _ = _
        rw [← HE.out, hg']
        have e : outsB i (g' + 1) T = encB 6 i (T.extract 0 (min T.size 200)) ++ outsB i g' (T.extract (min T.size 200) T.size) := by
          show (if T.size = 0 then _ else _) = _
          rw [if_neg hT]
        rw [e, ByteArray.append_assoc]
      have henc := encB_size 6 i (T.extract 0 (min T.size 200))
      have hA2 : (A ++ encB 6 i (T.extract 0 (min T.size 200))).size ≤ 208 * (s.size - g') := by rw [ByteArray.size_append]; omega
      have hcat : ¬ (9223372036854775807 < A.size + (encB 6 i (T.extract 0 (min T.size 200))).size) := by omega
      have hsz : (T.extract (min T.size 200) T.size).size ≤ g' := by rw [ByteArray.size_extract]; omega
      have HA2 : Hid _ := hA2
      have HSZ : Hid _ := hsz
      clear HE hA2 hsz henc
      by_cases hbig : 200 < T.size
      · have hmin : min T.size 200 = 200 := by omega
        rw [hmin] at HV HA2 HSZ hcat
        have hbI : (200 : Int) < T.size := by omega
        have hbI2 : (200 : Int) ≤ T.size := by omega
        have kk := fun w => kb.out w (T.extract 0 200) (by rw [ByteArray.size_extract]; omega)
        have KK : Hid _ := kk
        clear hmin kk kb
        go_wp2_with fail
        refine (KK.out _).mono ?_
        rintro e w3 ⟨rfl, hb3⟩
        go_wp2
        go_roundg g'
        case measure => omega
        case rel => exact ⟨T.extract 200 T.size, _, rfl, rfl, HSZ.out, HA2.out, by omega, HV.out, hb.trans (hb3.mono hb.size)⟩
      · have hmin : min T.size 200 = T.size := by omega
        have e1 : T.extract 0 T.size = T := by simp
        have e2 : T.extract T.size T.size = ByteArray.empty := by simp
        rw [hmin, e1, e2] at HV
        rw [hmin, e1] at HA2 hcat
        rw [hmin, e2] at HSZ
        have hbI : ¬ (200 : Int) < T.size := by omega
        have kk := fun w => kb.out w T (by omega)
        have KK : Hid _ := kk
        clear hmin kk kb e1 e2
        go_wp2_with fail
        refine (KK.out _).mono ?_
        rintro e w3 ⟨rfl, hb3⟩
        go_wp2
        go_roundg g'
        case measure => omega
        case rel => exact ⟨ByteArray.empty, _, rfl, rfl, HSZ.out, HA2.out, by omega, HV.out, hb.trans (hb3.mono hb.size)⟩

end Go.Proofs.Ytlafkpaljibonaa

namespace Go.Proofs.Ytlafkpaljibonaa
open Go.RowKit

/-- Is the slot's lease too old? -/
def PM.lateAt (m : PM) (k : Nat) : Bool := ((m.slot k).st == 3) && decide (m.set.tmo ≤ wrap64 (m.time - (m.slot k).since))
def PM.lateTo (m : PM) : Nat → PM
  | 0 => m
  | k + 1 => cond ((m.lateTo k).lateAt k) (((m.lateTo k).endKeyOf k 6).kill k) (m.lateTo k)

section
variable {m : PM} {R S : Nat}

theorem PM.fair_drop (h : ∀ j, j < 6 → m.fair j) (c i : Int) : ∀ j, j < 6 → (m.drop c i).fair j := by
  intro j hj
  unfold PM.drop
  cases m.slotOf c i with
  | none => exact h j hj
  | some a =>
    unfold PM.fair
    by_cases e : j = a
    · subst e; left; simp [PM.forgetAt, PSlot.forget]
    · simp only [PM.forgetAt, upd_other _ _ e]; exact h j hj

theorem PM.fair_endKeyOf (h : ∀ j, j < 6 → m.fair j) (k : Nat) (st : Int) : ∀ j, j < 6 → (m.endKeyOf k st).fair j := by
  unfold PM.endKeyOf
  cases ((m.slot k).conn != -1)
  · exact h
  · exact PM.fair_drop (m := m.sendB (m.slot k).conn.toNat (encB 3 (m.slot k).id (strOfNums [st]))) h _ _

theorem PM.fair_kill (h : ∀ j, j < 6 → m.fair j) (k : Nat) : ∀ j, j < 6 → (m.kill k).fair j := by
  intro j hj
  unfold PM.fair
  by_cases e : j = k
  · subst e; left; simp [PM.kill, PM.becomesAt, PSlot.becomes]
  · simp only [PM.kill, PM.becomesAt, upd_other _ _ e]; exact h j hj

theorem PM.small.endKeyOf (h : m.small R S) (k : Nat) (st : Int) : (m.endKeyOf k st).small R (S + 208) := by
  unfold PM.endKeyOf
  cases ((m.slot k).conn != -1)
  · exact h.mono (Nat.le_refl _) (by omega)
  · exact h.endKey _ _ _

theorem PM.small.kill (h : m.small R S) (k : Nat) : (m.kill k).small R S := h.of_eq rfl rfl

theorem PM.endKeyOf_set (m : PM) (k : Nat) (st : Int) : (m.endKeyOf k st).set = m.set ∧ (m.endKeyOf k st).time = m.time := by
  unfold PM.endKeyOf PM.endKey PM.drop
  cases ((m.slot k).conn != -1)
  · exact ⟨rfl, rfl⟩
  · simp only [cond_true]
    cases (m.sendB (m.slot k).conn.toNat (encB 3 (m.slot k).id (strOfNums [st]))).slotOf ((m.slot k).conn.toNat : Nat) (m.slot k).id <;> exact ⟨rfl, rfl⟩

theorem PM.lateTo_kept (hs : m.small R S) (hf : ∀ j, j < 6 → m.fair j) : ∀ k, (∀ j, j < 6 → (m.lateTo k).fair j) ∧ (m.lateTo k).small R (S + 208 * k) ∧ (m.lateTo k).set = m.set ∧ (m.lateTo k).time = m.time
  | 0 => ⟨hf, hs, rfl, rfl⟩
  | k + 1 => by
    obtain ⟨a1, a2, a3, a4⟩ := PM.lateTo_kept hs hf k
    unfold PM.lateTo
    cases (m.lateTo k).lateAt k
    · exact ⟨a1, a2.mono (Nat.le_refl _) (by omega), a3, a4⟩
    · obtain ⟨e1, e2⟩ := (m.lateTo k).endKeyOf_set k 6
      exact ⟨PM.fair_kill (PM.fair_endKeyOf a1 k 6) k, ((a2.endKeyOf k 6).kill k).mono (Nat.le_refl _) (by omega), e1.trans a3, e2.trans a4⟩
end

section
variable {o : Nat → Tag} {q : Nat} {w : World} {b : Nat} {m : PM} {sv : Nat → Value} {rv : Value}

theorem FMem.tmoc (h : FMem o q w b m sv rv) : w.cell? ⟨b, 5, none⟩ = some (.int .i64 m.set.tmo) := h.blk.cell rfl
theorem FMem.mnc (h : FMem o q w b m sv rv) : w.cell? ⟨b, 2, none⟩ = some (.int .i64 m.set.mn) := h.blk.cell rfl
theorem FMem.mxc (h : FMem o q w b m sv rv) : w.cell? ⟨b, 3, none⟩ = some (.int .i64 m.set.mx) := h.blk.cell rfl

set_option maxRecDepth 100000 in
set_option maxHeartbeats 4000000 in
theorem killLate_any (h : FMem o q w b m sv rv) (hq : q ≠ 0) {R S : Nat} (hsm : m.small R S) (hR : R ≤ 1000000000000) (hS : S ≤ 100000000000) (hf : ∀ k, k < 6 → m.fair k) :
    Calls Try.prog 63 #[.pointer (some ⟨b, 0, none⟩)] w fun r w' => r = .returned (.tuple #[]) ∧ ∃ o' sv' rv', FMem o' q w' b (m.lateTo 6) sv' rv' ∧ Fr q o w o' w' := by
  have hkept := PM.lateTo_kept hsm hf
  go_enter Try.func63, Try.ntmps63
  go_wp2
  go_loopw [4] (fun i w' => ∃ k : Nat, k ≤ 6 ∧ i = .int .i64 k ∧ ∃ o' sv' rv', FMem o' q w' b (m.lateTo k) sv' rv' ∧ Fr q o w o' w') (fun i _ => 6 - (intOf i).toNat)
  case atStart => exact ⟨0, by omega, rfl, o, sv, rv, h, Fr.refl h.clean⟩
  case round =>
    obtain ⟨k, hk, rfl, o1, sv1, rv1, hm, hfr⟩ := hrel
    clear h
    by_cases hlt : k < 6
    · have hkI : (k : Int) < 6 := by omega
      have HS : Hid (m.lateTo (k + 1) = cond ((m.lateTo k).lateAt k) (((m.lateTo k).endKeyOf k 6).kill k) (m.lateTo k)) := rfl
      obtain ⟨hf1, hs1, -, -⟩ := hkept k
      have hsn : ∀ c, c < 4 → ((m.lateTo k).con c).sent.length ≤ 1000000000000 := fun c hc => by have := hs1.sent c hc; omega
      have hrn : (m.lateTo k).req.length ≤ 1000000000000 := by have := hs1.req; omega
      clear hkept hs1
      generalize m.lateTo k = M at *
      obtain ⟨c0, c1, c2, c3, c4, c5, -⟩ := hm.slotc hlt
      have hb0 : ∀ ob, Below wr.heap.size wr (wr.alloc ob) := fun ob => (Below.refl _ _).alloc (Nat.le_refl _) ob
      have hT := fun ob => (hm.below (hb0 ob)).timec
      have hO := fun ob => (hm.below (hb0 ob)).tmoc
      have x0 := Blk.made wr 58 [.int .i64 (M.slot k).st, .bool (M.slot k).old, .int .i64 (M.slot k).served, .int .i64 (M.slot k).since, .int .i64 (M.slot k).conn, .int .i64 (M.slot k).id]
      have ke : Hid (∀ w', FMem o1 q w' b M sv1 rv1 → Calls Try.prog 78 #[.pointer (some ⟨b, 0, none⟩), .int .i64 (k : Nat), .int .i64 6] w' fun r w'' => r = .returned (.tuple #[]) ∧ ∃ o' sv' rv', FMem o' q w'' b (M.endKeyOf k 6) sv' rv' ∧ Fr q o1 w' o' w'') := fun w' h' => endKeyOf_any h' hq k hlt (hf1 k hlt) 6 (by omega) (by omega) hsn hrn
      unfold PM.lateAt at HS
      generalize M.endKeyOf k 6 = E at *
      have hmA := fun ob => hm.below (hb0 ob)
      have frA := fun ob => hfr.below (hb0 ob)
      generalize (M.slot k).st = s0 at *
      generalize (M.slot k).old = old at *
      generalize (M.slot k).served = srv at *
      generalize (M.slot k).since = snc at *
      generalize (M.slot k).conn = cn at *
      generalize (M.slot k).id = id at *
      have y0 := x0.cell (k := 0) (u := .int .i64 s0) rfl
      have y3 := x0.cell (k := 3) (u := .int .i64 snc) rfl
      by_cases h3 : s0 = 3
      · subst h3
        by_cases h5 : M.set.tmo ≤ wrap64 (M.time - snc)
        · have g5 : decide (M.set.tmo ≤ wrap64 (M.time - snc)) = true := by simpa using h5
          have g5' : decide (wrap64 (M.time - snc) ≥ M.set.tmo) = true := g5
          have HS2 : Hid (m.lateTo (k + 1) = E.kill k) := by show _ = _; rw [HS.out, g5]; rfl
          clear HS
          go_wp2_with fail
          go_quiet (fail)
          have hmq := hm.below (below_dN (m := nq) (hb0 (.cells #[.int .i64 3, .bool old, .int .i64 srv, .int .i64 snc, .int .i64 cn, .int .i64 id] 58)))
          have frq := hfr.below (below_dN (m := nq) (hb0 (.cells #[.int .i64 3, .bool old, .int .i64 srv, .int .i64 snc, .int .i64 cn, .int .i64 id] 58)))
          go_wp2_with fail
          refine (ke.out _ hmq).mono ?_
          rintro e w5 ⟨rfl, o5, sv5, rv5, hm5, fr5⟩
          clear c0 c1 c2 c3 c4 c5 hT hO y0 y3
          go_wp2_with fail
          refine (kill_any hm5 k hlt).mono ?_
          rintro e w6 ⟨rfl, hm6, fr6⟩
          go_wp2
          exact ⟨⟨k + 1, by omega, by go_num, o5, sv5, rv5, by rw [HS2.out]; exact hm6, (frq.trans fr5).trans fr6⟩, by simp [intOf]; omega⟩
        · have g5 : decide (M.set.tmo ≤ wrap64 (M.time - snc)) = false := by simpa using h5
          have g5' : decide (wrap64 (M.time - snc) ≥ M.set.tmo) = false := g5
          have HS2 : Hid (m.lateTo (k + 1) = M) := by show _ = _; rw [HS.out, g5]; rfl
          clear HS
          go_wp2_with fail
          go_quiet (fail)
          go_wp2
          exact ⟨⟨k + 1, by omega, by go_num, o1, sv1, rv1, by rw [HS2.out]; exact hm.below (below_dN (hb0 _)), hfr.below (below_dN (hb0 _))⟩, by simp [intOf]; omega⟩
      · have g3 : (s0 == 3) = false := by simpa using h3
        have HS2 : Hid (m.lateTo (k + 1) = M) := by show _ = _; rw [HS.out, g3]; rfl
        clear HS
        go_wp2_with fail
        go_quiet (fail)
        go_wp2
        exact ⟨⟨k + 1, by omega, by go_num, o1, sv1, rv1, by rw [HS2.out]; exact hm.below (below_dN (hb0 _)), hfr.below (below_dN (hb0 _))⟩, by simp [intOf]; omega⟩
    · have : k = 6 := by omega
      subst this
      go_wp2
      exact bodyPost_end (v := .tuple #[]) (by simp [results, Try.results63, go_sem]) rfl ⟨rfl, o1, sv1, rv1, hm, hfr⟩

end
end Go.Proofs.Ytlafkpaljibonaa
