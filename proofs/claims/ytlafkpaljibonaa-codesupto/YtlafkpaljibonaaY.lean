import Derived.Test.YtlafkpaljibonaaX
namespace Go.Proofs.Ytlafkpaljibonaa
open Go.RowKit

theorem wpList_append_X {ops : Array Oper} {rest : List Oper} {o : Oper} {a : Act} {Q : Exit → Act → World → Prop} (w : World) (hgd : o.guard = none) (s x : Operand)
    (ho : o.op = .call { callee := .builtin .append, args := #[s, x], argTypes := #[32, 32] })
    (base : Nat) (v : Value) (n : Nat) (hs : a.eval s = v) (hown : ownX w base v n) (ad : Addr) (m c : Nat) (hx : a.eval x = .slice (some ad) m c)
    (hnews : ∀ j u, (xs m)[j]? = some u → w.cell? (ad.add j) = some u) (hm : 0 < m) (hb : n + m ≤ 1000000000000) (hbase : base ≤ w.heap.size)
    (h : ∀ g cap w', ownX w' base (.slice (some ⟨g, 0, none⟩) (n + m) cap) (n + m) → w.grownBy w' v.ownBlock → (∀ base' u k, ownX w base' u k → ownX w' base' u k) → g < w'.heap.size → wpList Try.prog ops Q rest (a.put o.dst (.slice (some ⟨g, 0, none⟩) (n + m) cap)) w') :
    wpList Try.prog ops Q (o :: rest) a w := by
  obtain ⟨g, cap, w', hr, h2, h3, h4, h5⟩ := append_X w o.type base v n hown ad m c hnews hm hb hbase
  refine wpList_plain hgd fun K hK => ?_
  unfold Oper.wp execOp
  simp only [ho, resolve, invoke, builtin, Sem.run_bind, Sem.run_pure, Result.andThen_ok, List.map_toArray, List.map_cons, List.map_nil, hs, hx, hr]
  exact hK _ _ (h g cap w' h2 h3 h4 h5)

theorem own_form {w : World} {base : Nat} {e : TypeId} {size : Nat} {v : Value} {n : Nat} {l : List Value} (h : w.ownsRow base e size v n l) : ∃ a c, v = .slice a n c := by
  rcases h.2 with ⟨rfl, rfl⟩ | ⟨g, cap, cur, rfl, _⟩
  · exact ⟨_, _, rfl⟩
  · exact ⟨_, _, rfl⟩

theorem kept_below {w w' : World} {base : Nat} {e : TypeId} {size : Nat} {v : Value} {n : Nat} {l : List Value} (h : w.ownsRow base e size v n l) (hb : Below w.heap.size w w') : w'.ownsRow base e size v n l :=
  h.kept (row := none) ⟨hb.os, hb.tape, hb.output, hb.size, fun b hb' _ => hb.block b hb'⟩ (by cases hv : v.ownBlock <;> simp)

theorem own_drewN {w : World} {base : Nat} {e : TypeId} {size : Nat} {v : Value} {n m : Nat} {l : List Value} (h : w.ownsRow base e size v n l) : (w.drewN m).ownsRow base e size v n l := h

theorem below_drewN' {B : Nat} {w w' : World} {m : Nat} (h : Below B w w') : Below B w (w'.drewN m) := ⟨h.os, h.tape, h.output, h.size, h.block⟩

theorem rowOf_set (l : List Rec) (k : Nat) (r : Rec) (hk : k < l.length) : (((rowOf l).set (k * 3) (.int .i64 r.1)).set (k * 3 + 1) (.int .i64 r.2.1)).set (k * 3 + 2) (.string r.2.2) = rowOf (l.set k r) := by
  induction l generalizing k with
  | nil => simp at hk
  | cons x l ih =>
    have e : ∀ (x : Rec) (l : List Rec), rowOf (x :: l) = .int .i64 x.1 :: .int .i64 x.2.1 :: .string x.2.2 :: rowOf l := fun x l => by simp [rowOf, rcells]
    cases k with
    | zero => simp [e]
    | succ k =>
      have := ih k (by simpa using hk)
      rw [List.set_cons_succ, e, e, ← this, show (k + 1) * 3 = k * 3 + 1 + 1 + 1 from by omega]
      rfl

/-- One element of an owned row of records is written over. -/
theorem own_store {w : World} {base g n cap : Nat} {l : List Rec} (h : w.ownsRow base 23 3 (.slice (some ⟨g, 0, none⟩) n cap) n (rowOf l)) (k : Nat) (hk : k < l.length) (r : Rec) :
    (((w.setCell ⟨g, k * 3, none⟩ (.int .i64 r.1)).setCell ⟨g, k * 3 + 1, none⟩ (.int .i64 r.2.1)).setCell ⟨g, k * 3 + 2, none⟩ (.string r.2.2)).ownsRow base 23 3 (.slice (some ⟨g, 0, none⟩) n cap) n (rowOf (l.set k r)) := by
  rw [← rowOf_set l k r hk]
  exact ((h.stored _ _).1.stored _ _).1.stored _ _ |>.1

/-- What stands in memory while the owner writes over a list. -/
structure St (w : World) (B1 B4 n : Nat) (a b : Value) (L : List Rec) (W : World) : Prop where
  oa : ownX W w.heap.size a n
  ob : W.ownsRow B1 23 3 b n (rowOf L)
  x0 : W.cell? ⟨B4, 0, none⟩ = some (.int .i64 (-1))
  x1 : W.cell? ⟨B4, 1, none⟩ = some (.int .i64 0)
  x2 : W.cell? ⟨B4, 2, none⟩ = some (.string ⟨#[]⟩)
  bel : Below w.heap.size w W
  lt : B4 < W.heap.size

theorem St.step {w : World} {B1 B4 n : Nat} {a b : Value} {L : List Rec} {W W' : World} {o : Obj} (h : St w B1 B4 n a b L W) (ha : ∀ k, a.ownBlock = some k → w.heap.size ≤ k ∧ k < B1) (hB : B1 ≤ B4)
    (hg : (W.alloc o).grownBy W' a.ownBlock) (hk : ∀ base' u k, ownX (W.alloc o) base' u k → ownX W' base' u k) : St w B1 B4 n a b L W' := by
  have hne : some B4 ≠ a.ownBlock := fun e => by have := ha _ e.symm; omega
  have hsz : W.heap.size ≤ W'.heap.size := by have := hg.size; simp at this; omega
  have hc : ∀ (i : Nat) (v : Value), W.cell? ⟨B4, i, none⟩ = some v → W'.cell? ⟨B4, i, none⟩ = some v := fun i v hv =>
    hg.cell (by rw [World.cell?_alloc_lt _ _ _ (World.block_lt_of_cell? _ _ hv)]; exact hv) hne
  refine ⟨hk _ _ _ (World.ownsRow.alloc h.oa o), (h.ob.alloc o).kept hg ?_, hc _ _ h.x0, hc _ _ h.x1, hc _ _ h.x2, (h.bel.alloc (by have := h.bel.size; omega) o).grown hg (by have := h.bel.size; simp; omega) (fun k e => (ha k e).1), by have := h.lt; omega⟩
  rcases hb : b.ownBlock with _ | kb
  · exact .inl rfl
  · right
    have := h.ob.lt kb hb
    intro e
    have := ha kb e.symm
    omega

theorem news_blk (W : World) (g : Nat) (hg : W.heap.size = g) (m : Nat) (cs : Array Value) (hcs : cs.toList = xs m) (T : TypeId) : ∀ j u, (xs m)[j]? = some u → (W.alloc (.cells cs T)).cell? ((⟨g, 0, none⟩ : Addr).add j) = some u := by
  subst hg
  rw [← hcs]
  exact World.news_of_block (heap_alloc_new W _)

theorem ownX_cells {w : World} {base g n c : Nat} (h : ownX w base (.slice (some ⟨g, 0, none⟩) n c) n) (k : Nat) (hk : k < n) :
    w.cell? ⟨g, k * 3, none⟩ = some (.int .i64 (-1)) ∧ w.cell? ⟨g, k * 3 + 1, none⟩ = some (.int .i64 0) ∧ w.cell? ⟨g, k * 3 + 2, none⟩ = some (.string ⟨#[]⟩) := by
  unfold ownX at h
  rw [h.cellAt _ (by omega), h.cellAt _ (by omega), h.cellAt _ (by omega), xs_get _ _ (by omega), xs_get _ _ (by omega), xs_get _ _ (by omega)]
  refine ⟨?_, ?_, ?_⟩
  · rw [xat, if_pos (by omega)]
  · rw [xat, if_neg (by omega), if_pos (by omega)]
  · rw [xat, if_neg (by omega), if_neg (by omega)]


set_option maxRecDepth 100000 in
set_option maxHeartbeats 4000000 in
theorem decodes_any (s : ByteArray) (w : World) (hmax : (s.size : Int) ≤ 100000000000) (hlen : (decL s).length ≤ 100000000000) :
    Calls Try.prog 12 #[.string s] w fun r w' => r = .returned (.bool true) ∧ Below w.heap.size w w' := by
  go_enter Try.func12, Try.ntmps12
  go_wp2_with fail
  refine (fDecode_any s _ (by omega)).mono ?_
  rintro e w1 ⟨va, rfl, owna, b1⟩
  go_wp2_with fail
  refine (refDecode_any s _ (by omega)).mono ?_
  rintro e w2 ⟨vb, rfl, ownb, b2⟩
  have owna2 := kept_below owna b2
  have hb12 : Below w.heap.size w w2 := b1.trans (b2.mono b1.size)
  have ha1 := owna.lt
  have hsz := b2.size
  have hsz1 := b1.size
  clear owna b1 b2
  go_wp2_with fail
  refine (sameRecords_own va vb _ _ _ _ (by omega) owna2 ownb).mono ?_
  rintro e w3 ⟨rfl, m3, hw3⟩
  replace owna2 : w3.ownsRow w.heap.size 23 3 va (decL s).length (rowOf (decL s)) := by rw [hw3]; exact owna2
  replace ownb : w3.ownsRow w1.heap.size 23 3 vb (decL s).length (rowOf (decL s)) := by rw [hw3]; exact ownb
  replace hb12 : Below w.heap.size w w3 := by rw [hw3]; exact below_drewN' hb12
  replace hsz : w1.heap.size ≤ w3.heap.size := by rw [hw3]; exact hsz
  clear hw3
  generalize hLL : decL s = L at *
  have HLL : Hid _ := hLL
  clear hLL
  obtain ⟨aA, cA, rfl⟩ := own_form owna2
  obtain ⟨aB, cB, rfl⟩ := own_form ownb
  go_wp2_with (go_at_call 13; refine (num_any _ _).mono ?_; rintro e w4 ⟨rfl, rfl⟩)
  have hx0 : (w4.alloc (.cells #[.int .i64 (-1), .int .i64 0, .string ⟨#[]⟩] 23)).cell? ⟨w4.heap.size, 0, none⟩ = some (.int .i64 (-1)) := by rw [World.cell?_alloc_at _ _ _ _ rfl]; rfl
  have hx1 : (w4.alloc (.cells #[.int .i64 (-1), .int .i64 0, .string ⟨#[]⟩] 23)).cell? ⟨w4.heap.size, 1, none⟩ = some (.int .i64 0) := by rw [World.cell?_alloc_at _ _ _ _ rfl]; rfl
  have hx2 : (w4.alloc (.cells #[.int .i64 (-1), .int .i64 0, .string ⟨#[]⟩] 23)).cell? ⟨w4.heap.size, 2, none⟩ = some (.string ⟨#[]⟩) := by rw [World.cell?_alloc_at _ _ _ _ rfl]; rfl
  go_loopw [11] (fun i w' => ∃ (k : Nat) (l' : List Rec), i = .int .i64 k ∧ k ≤ L.length ∧ l'.length = L.length ∧ (∀ j, j < k → l'[j]? = some X) ∧
    w'.ownsRow w.heap.size 23 3 (.slice aA L.length cA) L.length (rowOf l') ∧ w'.ownsRow w1.heap.size 23 3 (.slice aB L.length cB) L.length (rowOf L) ∧
    w'.cell? ⟨w4.heap.size, 0, none⟩ = some (.int .i64 (-1)) ∧ w'.cell? ⟨w4.heap.size, 1, none⟩ = some (.int .i64 0) ∧ w'.cell? ⟨w4.heap.size, 2, none⟩ = some (.string ⟨#[]⟩) ∧
    Below w.heap.size w w' ∧ w4.heap.size < w'.heap.size) (fun i _ => L.length - (intOf i).toNat)
  case atStart => exact ⟨0, L, rfl, Nat.zero_le _, rfl, fun j hj => by omega, owna2.alloc _, ownb.alloc _, hx0, hx1, hx2, hb12.alloc (by omega) _, by simp⟩
  case round =>
    clear hx0 hx1 hx2
    obtain ⟨k, l', rfl, hk, hl', hset, owna, ownb2, hx0, hx1, hx2, hbel, hB⟩ := hrel
    have HS : Hid _ := hset
    clear hset
    by_cases hlt : k < L.length
    · obtain ⟨g, cap, hv, -, hgl⟩ := owna.form (by omega)
      simp only [Value.slice.injEq] at hv
      obtain ⟨rfl, -, rfl⟩ := hv
      have hgb := ha1 g rfl
      obtain ⟨p0, p1, p2⟩ := own_cells (l := l') (by rw [hl']; exact owna) k (by omega)
      have f0 := owna.frozenAt (k * 3)
      have f1 := owna.frozenAt (k * 3 + 1)
      have f2 := owna.frozenAt (k * 3 + 2)
      go_wp2
      have hS := HS.out
      have hne : g ≠ w4.heap.size := by omega
      refine ⟨⟨k + 1, l'.set k X, by go_num, by omega, by simpa using hl', ?_, own_store owna k (by omega) X, ?_, ?_, ?_, ?_, ?_, by simpa using hB⟩, by simp [intOf]; omega⟩
      · intro j hj
        by_cases hjk : j = k
        · subst hjk; rw [List.getElem?_set_self (by omega)]
        · rw [List.getElem?_set_ne (by omega)]; exact hS j (by omega)
      · exact ownsRow_setCell_below (ownsRow_setCell_below (ownsRow_setCell_below ownb2 hgb.2 _) hgb.2 _) hgb.2 _
      · rw [World.cell?_setCell_far _ _ _ _ hne, World.cell?_setCell_far _ _ _ _ hne, World.cell?_setCell_far _ _ _ _ hne]; exact hx0
      · rw [World.cell?_setCell_far _ _ _ _ hne, World.cell?_setCell_far _ _ _ _ hne, World.cell?_setCell_far _ _ _ _ hne]; exact hx1
      · rw [World.cell?_setCell_far _ _ _ _ hne, World.cell?_setCell_far _ _ _ _ hne, World.cell?_setCell_far _ _ _ _ hne]; exact hx2
      · exact ((hbel.setCell hgb.1 _).setCell hgb.1 _).setCell hgb.1 _
    · have hk' : k = L.length := by omega
      have hall : rowOf l' = xs L.length := by
        refine congrArg rowOf (List.ext_getElem? fun j => ?_)
        by_cases hj : j < L.length
        · rw [HS.out j (by omega), List.getElem?_replicate, if_pos hj]
        · rw [List.getElem?_eq_none (by omega), List.getElem?_eq_none (by simp; omega)]
      rw [hall] at owna
      have st : St w w1.heap.size w4.heap.size L.length (.slice aA L.length cA) (.slice aB L.length cB) L wr := ⟨owna, ownb2, hx0, hx1, hx2, hbel, hB⟩
      clear hall owna hk' hl' HS owna2 ownb ownb2 hbel hb12
      go_wp2_with (at_builtin; refine wpList_append_X _ rfl _ _ rfl w.heap.size _ L.length rfl (World.ownsRow.alloc st.oa _) ⟨wr.heap.size, 0, none⟩ 1 1 rfl (news_blk _ _ (by simp) 1 _ rfl _) (by omega) (by omega) (by have := st.bel.size; simp; omega) ?_)
      intro g1 c1 w5 o1 hg hk lt1
      have st5 := st.step ha1 hsz hg hk
      have y0 := st5.x0
      have y1 := st5.x1
      have y2 := st5.x2
      have sz5 := st5.bel.size
      clear st hg hk hx0 hx1 hx2 hB
      go_wp2_with (at_builtin; refine wpList_append_X _ rfl _ _ rfl w.heap.size _ L.length rfl (World.ownsRow.alloc st5.oa _) ⟨w5.heap.size, 0, none⟩ 2 2 rfl (news_blk _ _ (by simp) 2 _ rfl _) (by omega) (by omega) (by simp; omega) ?_)
      intro g2 c2 w6 o2 hg hk lt2
      have st6 := st5.step ha1 hsz hg hk
      have o1' := hk _ _ _ (World.ownsRow.alloc o1 _)
      have z0 := st6.x0
      have z1 := st6.x1
      have z2 := st6.x2
      have sz6 := st6.bel.size
      clear st5 hg hk y0 y1 y2 sz5 o1 lt1
      go_wp2_with (at_builtin; refine wpList_append_X _ rfl _ _ rfl w.heap.size _ L.length rfl (World.ownsRow.alloc st6.oa _) ⟨w6.heap.size, 0, none⟩ 3 3 rfl (news_blk _ _ (by simp) 3 _ rfl _) (by omega) (by omega) (by simp; omega) ?_)
      intro g3 c3 w7 o3 hg hk lt3
      have st7 := st6.step ha1 hsz hg hk
      have o1'' := hk _ _ _ (World.ownsRow.alloc o1' _)
      have o2' := hk _ _ _ (World.ownsRow.alloc o2 _)
      clear st6 hg hk z0 z1 z2 sz6 o1' o2 lt2
      go_wp2_with fail
      refine (fDecode_any s _ (by omega)).mono ?_
      rintro e w8 ⟨vc, rfl, ownc, b8⟩
      rw [HLL.out] at ownc
      have ob8 := kept_below st7.ob b8
      go_wp2_with fail
      refine (sameRecords_own vc _ _ _ _ _ (by omega) ownc ob8).mono ?_
      rintro e w9 ⟨rfl, m9, hw9⟩
      have b9 : Below w7.heap.size w7 w9 := by rw [hw9]; exact below_drewN' b8
      have bel9 : Below w.heap.size w w9 := by rw [hw9]; exact below_drewN' (st7.bel.trans (b8.mono (by have := st7.bel.size; omega)))
      have oa9 : ownX w9 w.heap.size (.slice aA L.length cA) L.length := kept_below st7.oa b9
      have o19 : ownX w9 w.heap.size (.slice (some ⟨g1, 0, none⟩) (L.length + 1) c1) (L.length + 1) := kept_below o1'' b9
      have o29 : ownX w9 w.heap.size (.slice (some ⟨g2, 0, none⟩) (L.length + 2) c2) (L.length + 2) := kept_below o2' b9
      have o39 : ownX w9 w.heap.size (.slice (some ⟨g3, 0, none⟩) (L.length + 3) c3) (L.length + 3) := kept_below o3 b9
      have hq : ∀ (i : Nat) (v : Value), w7.cell? ⟨w4.heap.size, i, none⟩ = some v → w9.cell? ⟨w4.heap.size, i, none⟩ = some v := fun i v hv => cell_later b9 hv
      have q0 := hq _ _ st7.x0
      have q1 := hq _ _ st7.x1
      have q2 := hq _ _ st7.x2
      clear st7 b8 b9 ownc ob8 hw9 hq o1'' o2' o3
      go_wp2
      go_loopw [9, 18] (fun sm i w' => ∃ k m : Nat, k ≤ L.length + 3 ∧ sm = .bool true ∧ i = .int .i64 k ∧ w' = w9.drewN m) (fun _ i _ => L.length + 3 - (intOf i).toNat)
      case atStart => exact ⟨0, 0, Nat.zero_le _, rfl, rfl, rfl⟩
      case round =>
        obtain ⟨k, m, hk, rfl, rfl, rfl⟩ := hrel
        by_cases hlt : k < L.length + 3
        · obtain ⟨r0, r1, r2⟩ := ownX_cells o39 k hlt
          have ik : (0 : Int) ≤ (k : Int) := by omega
          have i3 : (k : Int) < (L.length : Int) + 3 := by omega
          by_cases h2 : k < L.length + 2
          · obtain ⟨s0, s1, s2⟩ := ownX_cells o29 k h2
            have i2 : (k : Int) < (L.length : Int) + 2 := by omega
            have d2 : decide ((L.length : Int) + 2 ≤ (k : Int)) = false := by simp; omega
            by_cases h1 : k < L.length + 1
            · obtain ⟨t0, t1, t2⟩ := ownX_cells o19 k h1
              have i1 : (k : Int) < (L.length : Int) + 1 := by omega
              have d1 : decide ((L.length : Int) + 1 ≤ (k : Int)) = false := by simp; omega
              by_cases h0 : k < L.length
              · have i0 : (k : Int) < (L.length : Int) := by omega
                have d0 : decide ((L.length : Int) ≤ (k : Int)) = false := by simp; omega
                obtain ⟨g, cap, hv, -, -⟩ := World.ownsRow.form oa9 (by omega)
                simp only [Value.slice.injEq] at hv
                obtain ⟨rfl, -, rfl⟩ := hv
                obtain ⟨u0, u1, u2⟩ := ownX_cells oa9 k h0
                clear oa9 o19 o29 o39
                go_wp2
                go_quiet (fail)
                go_wp2
                exact ⟨⟨k + 1, m + nq, by omega, rfl, by go_num, rfl⟩, by simp [intOf]; omega⟩
              · have i0 : (L.length : Int) ≤ (k : Int) := by omega
                have d0 : decide ((L.length : Int) ≤ (k : Int)) = true := by simp; omega
                clear oa9 o19 o29 o39
                go_wp2
                go_quiet (fail)
                go_wp2
                exact ⟨⟨k + 1, m + nq, by omega, rfl, by go_num, rfl⟩, by simp [intOf]; omega⟩
            · have i1 : (L.length : Int) + 1 ≤ (k : Int) := by omega
              have d1 : decide ((L.length : Int) + 1 ≤ (k : Int)) = true := by simp; omega
              have i0 : (L.length : Int) ≤ (k : Int) := by omega
              have d0 : decide ((L.length : Int) ≤ (k : Int)) = true := by simp; omega
              clear oa9 o19 o29 o39
              go_wp2
              go_quiet (fail)
              go_wp2
              exact ⟨⟨k + 1, m + nq, by omega, rfl, by go_num, rfl⟩, by simp [intOf]; omega⟩
          · have i2' : (L.length : Int) + 2 ≤ (k : Int) := by omega
            have d2 : decide ((L.length : Int) + 2 ≤ (k : Int)) = true := by simp; omega
            have i1 : (L.length : Int) + 1 ≤ (k : Int) := by omega
            have d1 : decide ((L.length : Int) + 1 ≤ (k : Int)) = true := by simp; omega
            have i0 : (L.length : Int) ≤ (k : Int) := by omega
            have d0 : decide ((L.length : Int) ≤ (k : Int)) = true := by simp; omega
            clear oa9 o19 o29 o39
            go_wp2
            go_quiet (fail)
            go_wp2
            exact ⟨⟨k + 1, m + nq, by omega, rfl, by go_num, rfl⟩, by simp [intOf]; omega⟩
        · clear oa9 o19 o29 o39
          go_wp2
          go_ret
          exact ⟨rfl, below_drewN' bel9⟩
end Go.Proofs.Ytlafkpaljibonaa
