import Derived.Test.YtlafkpaljibonaaGreatL3
namespace Go.Proofs.YtlafkpaljibonaaGreat
open Go.RowKit

theorem wpList_append_M {ops : Array Oper} {rest : List Oper} {o : Oper} {a : Act} {Q : Exit → Act → World → Prop} (t : Int) (w : World) (hgd : o.guard = none) (s x : Operand)
    (ho : o.op = .call { callee := .builtin .append, args := #[s, x], argTypes := #[86, 86] })
    (base : Nat) (v : Value) (n : Nat) (hs : a.eval s = v) (hown : ownM t w base v n) (ad : Addr) (m c : Nat) (hx : a.eval x = .slice (some ad) m c)
    (hnews : ∀ j u, (ms t m)[j]? = some u → w.cell? (ad.add j) = some u) (hm : 0 < m) (hb : n + m ≤ 1000000000000) (hbase : base ≤ w.heap.size)
    (h : ∀ g cap w', ownM t w' base (.slice (some ⟨g, 0, none⟩) (n + m) cap) (n + m) → w.grownBy w' v.ownBlock → (∀ base' u k, ownM t w base' u k → ownM t w' base' u k) → g < w'.heap.size → wpList Tryz.prog ops Q rest (a.put o.dst (.slice (some ⟨g, 0, none⟩) (n + m) cap)) w') :
    wpList Tryz.prog ops Q (o :: rest) a w := by
  obtain ⟨g, cap, w', hr, h2, h3, h4, h5, -⟩ := append_M t w o.type base v n hown ad m c hnews hm hb hbase
  refine wpList_plain hgd fun K hK => ?_
  unfold Oper.wp execOp
  simp only [ho, resolve, invoke, builtin, Sem.run_bind, Sem.run_pure, Result.andThen_ok, List.map_toArray, List.map_cons, List.map_nil, hs, hx, hr]
  exact hK _ _ (h g cap w' h2 h3 h4 h5)

theorem news_ms (W : World) (g : Nat) (hg : W.heap.size = g) (t : Int) (m : Nat) (cs : Array Value) (hcs : cs.toList = ms t m) (T : TypeId) : ∀ j u, (ms t m)[j]? = some u → (W.alloc (.cells cs T)).cell? ((⟨g, 0, none⟩ : Addr).add j) = some u := by
  subst hg
  rw [← hcs]
  exact World.news_of_block (heap_alloc_new W _)

theorem news_vals (W : World) (g : Nat) (hg : W.heap.size = g) (l : List Value) (cs : Array Value) (hcs : cs.toList = l) (T : TypeId) : ∀ j u, l[j]? = some u → (W.alloc (.cells cs T)).cell? ((⟨g, 0, none⟩ : Addr).add j) = some u := by
  subst hg
  rw [← hcs]
  exact World.news_of_block (heap_alloc_new W _)

theorem infoKeys : (Tryz.prog.info? 86).map (fun i => (i.zero, i.size, i.bytes)) = some (some (.slice none 0 0), 1, 24) := by kernel_rfl

theorem ms_step (t : Int) (W : List (Int × Int)) (j : Nat) (h : j < W.length) :
    ((ms t j ++ keyCells (W.drop j)).set (j * 2) (.int .i64 t)).set (j * 2 + 1) (.int .i64 (-1)) = ms t (j + 1) ++ keyCells (W.drop (j + 1)) := by
  have e : keyCells (W.drop j) = .int .i64 W[j].1 :: .int .i64 W[j].2 :: keyCells (W.drop (j + 1)) := by
    rw [List.drop_eq_getElem_cons h]; rfl
  rw [e, List.set_append_right _ _ (by rw [ms_length]; omega), ms_length, Nat.sub_self, List.set_append_right _ _ (by rw [ms_length]; omega), ms_length]
  rw [show j * 2 + 1 - j * 2 = 1 from by omega, ms_add t j 1]
  simp [ms, keyCells]

theorem ms_rest (t : Int) (W : List (Int × Int)) (j : Nat) (h : j < W.length) :
    (ms t j ++ keyCells (W.drop j))[j * 2]? = some (.int .i64 W[j].1) ∧ (ms t j ++ keyCells (W.drop j))[j * 2 + 1]? = some (.int .i64 W[j].2) := by
  have e : keyCells (W.drop j) = .int .i64 W[j].1 :: .int .i64 W[j].2 :: keyCells (W.drop (j + 1)) := by
    rw [List.drop_eq_getElem_cons h]; rfl
  rw [e, List.getElem?_append_right (by rw [ms_length]; omega), List.getElem?_append_right (by rw [ms_length]; omega), ms_length, Nat.sub_self, show j * 2 + 1 - j * 2 = 1 from by omega]
  simp

/-- While the owner writes over his list. -/
structure Bl (w : World) (B1 B2 n : Nat) (a b : Value) (xs ys : List Value) (t : Int) (W : World) : Prop where
  oa : W.ownsRow w.heap.size 89 2 a n xs
  ob : W.ownsRow B1 89 2 b n ys
  x : Blk W B2 89 [.int .i64 t, .int .i64 (-1)]
  bel : Below w.heap.size w W

theorem Bl.step {w : World} {B1 B2 n : Nat} {a b : Value} {ys : List Value} {t : Int} {W W' : World} {o : Obj} (h : Bl w B1 B2 n a b (ms t n) ys t W) (ha : ∀ k, a.ownBlock = some k → w.heap.size ≤ k ∧ k < B1) (hB : B1 ≤ B2)
    (hg : (W.alloc o).grownBy W' a.ownBlock) (hk : ∀ base' u k, ownM t (W.alloc o) base' u k → ownM t W' base' u k) : Bl w B1 B2 n a b (ms t n) ys t W' := by
  have hne : some B2 ≠ a.ownBlock := fun e => by have := ha _ e.symm; omega
  refine ⟨hk _ _ _ (World.ownsRow.alloc h.oa o), (h.ob.alloc o).kept hg ?_, ?_, (h.bel.alloc (by have := h.bel.size; omega) o).grown hg (by have := h.bel.size; simp; omega) (fun k e => (ha k e).1)⟩
  · rcases hb : b.ownBlock with _ | kb
    · exact .inl rfl
    · right
      have := h.ob.lt kb hb
      intro e
      have := ha kb e.symm
      omega
  · exact h.x.keep ((hg.block B2 (by have := h.x.lt; simp; omega) hne).trans (Below.heap_alloc _ _ B2 h.x.lt))

section
variable {p : Nat} {o : Nat → Tag} {w : World} {gb fb wb : Nat} {ls ts : List Value} {lv tv : Value} {m : PM} {sv : Nat → Value} {rv : Value} {M : RM} {nv : Nat → Value} {kv qv : Value}

set_option maxRecDepth 100000 in
set_option maxHeartbeats 4000000 in
theorem gbacklog_any (h : Trio p o w gb fb wb ls ts lv tv m sv rv M nv kv qv) (hwf : M.wf) (hW : M.waits = m.waits) (h1 : m.req.length ≤ 100000000000) (h2 : M.queue.length ≤ 100000000000) (h3 : ls.length ≤ 100000000000) :
    Calls Tryz.prog 19 #[.pointer (some ⟨gb, 0, none⟩)] w fun r w' => r = .returned (.bool true) ∧ ∃ o' ls' ts' lv' tv', Trio p o' w' gb fb wb ls' ts' lv' tv' m sv rv M nv kv qv ∧ Fr (p + 3) o w o' w' ∧ ls'.length = ls.length + 1 := by
  obtain ⟨i0, hi, hz0, hz1, hz2⟩ := info_parts infoKeys
  have hwl : m.waits.length ≤ 100000000000 := by
    have : m.waits.length ≤ m.req.length := by simp only [PM.waits, List.length_map]; exact List.length_filter_le _ _
    omega
  have hts : ts.length ≤ 300000000000 := by have := h.g.len; omega
  have k1 : Hid (∀ w', FMem o (p + 1) w' fb m sv rv → Calls Tryz.prog 41 #[.pointer (some ⟨fb, 0, none⟩)] w' fun r w'' => ∃ v, r = .returned v ∧ w''.ownsRow w'.heap.size 89 2 v m.waits.length (keyCells m.waits) ∧ Below w'.heap.size w' w'') := fun w' h' => backlog_any h' (by omega)
  have k2 : Hid (∀ w', RMem o (p + 2) w' wb M nv kv qv → Calls Tryz.prog 42 #[.pointer (some ⟨wb, 0, none⟩)] w' fun r w'' => ∃ v, r = .returned v ∧ w''.ownsRow w'.heap.size 89 2 v m.waits.length (keyCells m.waits) ∧ Below w'.heap.size w' w'') := fun w' h' => hW ▸ rBacklog_any h' hwf (by omega)
  clear hW h1 h2
  generalize m.waits = W at *
  have c0 := h.g.fc
  go_enter Tryz.func19, Tryz.ntmps19
  go_wp2_with fail
  refine (k1.out _ h.f).mono ?_
  rintro e w1 ⟨va, rfl, oa, b1⟩
  have t1 := h.below b1
  have c1 := t1.g.wc
  clear c0
  go_wp2_with fail
  refine (k2.out _ t1.r).mono ?_
  rintro e w2 ⟨vb, rfl, ob, b2⟩
  have t2 := t1.below b2
  have oa2 := own_keepAt oa (fun g hg => b2.block g (oa.lt g hg).2) (Nat.le_refl _)
  have b12 : Below w.heap.size w w2 := b1.trans (b2.mono b1.size)
  have ha1 := oa.lt
  have hs1 := b1.size
  have hs2 := b2.size
  clear c1 oa b1 b2 k1 k2 t1
  obtain ⟨aa, ca, rfl, hna, ha0⟩ := own_slice oa2
  obtain ⟨ab, cb, rfl, hnb, hb0⟩ := own_slice ob
  obtain ⟨al, cl, rfl, hnl, -⟩ := h.g.lists.form
  have c2 := t2.g.lc
  go_wp2_with fail
  have hX := Blk.made w2 89 [.int .i64 (-1 - (ls.length : Int)), .int .i64 (-1)]
  have bl0 : Bl w w1.heap.size w2.heap.size W.length (.slice aa W.length ca) (.slice ab W.length cb) (ms (-1 - (ls.length : Int)) 0 ++ keyCells (W.drop 0)) (keyCells W) (-1 - (ls.length : Int)) (w2.alloc (.cells #[.int .i64 (-1 - (ls.length : Int)), .int .i64 (-1)] 89)) :=
    ⟨oa2.alloc _, ob.alloc _, hX, b12.alloc (by omega) _⟩
  go_loopw [6, 7] (fun s i w' => ∃ j : Nat, j ≤ W.length ∧ s = .bool true ∧ i = .int .i64 j ∧ Bl w w1.heap.size w2.heap.size W.length (.slice aa W.length ca) (.slice ab W.length cb) (ms (-1 - (ls.length : Int)) j ++ keyCells (W.drop j)) (keyCells W) (-1 - (ls.length : Int)) w') (fun _ i _ => W.length - (intOf i).toNat)
  case atStart => exact ⟨0, by omega, rfl, rfl, bl0⟩
  case round =>
    clear bl0 hX c2
    obtain ⟨j, hj, rfl, rfl, bl⟩ := hrel
    generalize ht : (-1 - (ls.length : Int)) = t at *
    have HT : Hid _ := ht
    clear ht
    by_cases hlt : j < W.length
    · obtain ⟨ga, rfl, hga0, hga⟩ := ha0 (by omega)
      obtain ⟨gq, rfl, hgb0, hgb⟩ := hb0 (by omega)
      have hga1 := ha1 ga rfl
      have p0 := bl.oa.cellAt (j * 2) (by omega)
      have p1 := bl.oa.cellAt (j * 2 + 1) (by omega)
      rw [(ms_rest t W j hlt).1] at p0
      rw [(ms_rest t W j hlt).2] at p1
      have q0 := bl.ob.cellAt (j * 2) (by omega)
      have q1 := bl.ob.cellAt (j * 2 + 1) (by omega)
      rw [(keyCells_get W j hlt).1] at q0
      rw [(keyCells_get W j hlt).2] at q1
      have x0 := bl.x.cell (k := 0) (u := .int .i64 t) rfl
      have x1 := bl.x.cell (k := 1) (u := .int .i64 (-1)) rfl
      have f0 : ∀ i, wr.frozen? ⟨ga, i, none⟩ = false := fun i => bl.oa.frozenAt i
      have HR := ms_step t W j hlt
      generalize W[j] = K at *
      go_wp2
      go_quiet (fail)
      go_wp2
      have hg1 : ga ≠ w2.heap.size := by omega
      refine ⟨⟨j + 1, by omega, by first | rfl | simp, by go_num, ?_⟩, by simp [intOf]; omega⟩
      have s1 := bl.oa.stored (j * 2) (.int .i64 t)
      have s2 := s1.1.stored (j * 2 + 1) (.int .i64 (-1))
      rw [HR] at s2
      refine ⟨s2.1, ?_, ?_, ?_⟩
      · exact ownsRow_setCell_below (ownsRow_setCell_below bl.ob hga1.2 _) hga1.2 _
      · exact (bl.x.keep (Below.heap_setCell _ _ _ _ (by simpa using hg1.symm))).keep (Below.heap_setCell _ _ _ _ (by simpa using hg1.symm))
      · exact ((below_dN bl.bel).setCell hga1.1 _).setCell hga1.1 _
    · have hjn : j = W.length := by omega
      subst hjn
      have st : Bl w w1.heap.size w2.heap.size W.length (.slice aa W.length ca) (.slice ab W.length cb) (ms t W.length) (keyCells W) t wr := by
        have := bl
        rw [List.drop_length, show keyCells [] = [] from rfl, List.append_nil] at this
        exact this
      clear bl hlt hj
      have x0 := st.x.cell (k := 0) (u := .int .i64 t) rfl
      have x1 := st.x.cell (k := 1) (u := .int .i64 (-1)) rfl
      have z := st.bel.size
      go_wp2_with (at_builtin; refine wpList_append_M t _ rfl _ _ rfl w.heap.size _ W.length rfl (World.ownsRow.alloc st.oa _) ⟨wr.heap.size, 0, none⟩ 1 1 rfl (news_ms _ _ (by simp) t 1 _ rfl _) (by omega) (by omega) (by simp; omega) ?_)
      intro g1 e1 w5 o1 hg hk lt1
      have st5 := st.step ha1 hs2 hg hk
      clear st hg hk x0 x1 z
      have x0 := st5.x.cell (k := 0) (u := .int .i64 t) rfl
      have x1 := st5.x.cell (k := 1) (u := .int .i64 (-1)) rfl
      have z := st5.bel.size
      go_wp2_with (at_builtin; refine wpList_append_M t _ rfl _ _ rfl w.heap.size _ W.length rfl (World.ownsRow.alloc st5.oa _) ⟨w5.heap.size, 0, none⟩ 2 2 rfl (news_ms _ _ (by simp) t 2 _ rfl _) (by omega) (by omega) (by simp; omega) ?_)
      intro g2 e2 w6 o2 hg hk lt2
      have st6 := st5.step ha1 hs2 hg hk
      have o1' := hk _ _ _ (World.ownsRow.alloc o1 _)
      clear st5 hg hk x0 x1 z o1 lt1
      have x0 := st6.x.cell (k := 0) (u := .int .i64 t) rfl
      have x1 := st6.x.cell (k := 1) (u := .int .i64 (-1)) rfl
      have z := st6.bel.size
      go_wp2_with (at_builtin; refine wpList_append_M t _ rfl _ _ rfl w.heap.size _ W.length rfl (World.ownsRow.alloc st6.oa _) ⟨w6.heap.size, 0, none⟩ 3 3 rfl (news_ms _ _ (by simp) t 3 _ rfl _) (by omega) (by omega) (by simp; omega) ?_)
      intro g3 e3 w7 o3 hg hk lt3
      have st7 := st6.step ha1 hs2 hg hk
      have o1'' := hk _ _ _ (World.ownsRow.alloc o1' _)
      have o2' := hk _ _ _ (World.ownsRow.alloc o2 _)
      have oa7 : ownM t w7 w.heap.size (.slice aa W.length ca) W.length := st7.oa
      have b7 := st7.bel
      clear st6 st7 hg hk x0 x1 z o1' o2 lt2 lt3 ha0 hb0 oa2 ob t2 b12
      have t7 := h.below (b7.mono (Nat.le_refl _))
      have c2 := t7.g.lc
      have cA := fun ob => (t7.below ((Below.refl _ _).alloc (Nat.le_refl _) ob)).g
      have r7 := t7.g.lists.1
      have z7 := b7.size
      go_wp2_with (at_builtin; refine wpList_append_lies _ rfl _ _ 43 rfl 0 86 i0 (.slice none 0 0) 1 24 Tryz.underlying43 hi hz0 hz1 hz2 rfl (by omega) _ ls.length ls rfl ?qown ⟨w7.heap.size, 0, none⟩ 1 1 [.slice aa W.length ca] rfl rfl ?qnews ?q1 (by omega) ?q63 ?qby (Nat.zero_le _) (w7.heap.size + 1) ?qH ?_)
      case qown => exact r7.alloc _
      case qnews => exact news_vals _ _ (by simp) _ _ rfl _
      case q1 => intro u hu; simp only [List.mem_cons, List.not_mem_nil, or_false] at hu; subst hu; rfl
      case q63 => unfold maxLen; omega
      case qby => omega
      case qH => simp
      intro G1 f1 w8 own8 hg8 hat8 hlt8
      have tgb := h.g.tag
      have tlv := h.g.lists.2
      have ttv := h.g.tails.2
      have ltv := h.g.tails.1.lt
      have ne1 : some gb ≠ (Value.slice al ls.length cl).ownBlock := by intro e; have := tlv _ e.symm; rw [tgb] at this; simp at this
      have bk7 := t7.g.blk
      have r7t := t7.g.tails.1
      have bk8 : Blk w8 gb _ _ := bk7.keep ((hg8.block gb (by have := bk7.lt; simp; omega) ne1).trans (Below.heap_alloc _ _ gb bk7.lt))
      have ot8 : (w8.setCell ⟨gb, 2, none⟩ (.slice (some ⟨G1, 0, none⟩) (ls.length + 1) f1)).ownsRow 0 86 1 tv ts.length ts := by
        refine own_keepAt r7t (fun g hg => ?_) (Nat.le_refl _)
        have hgl := ltv g hg
        have hgt := ttv g hg
        have n1 : g ≠ gb := by rintro rfl; rw [tgb] at hgt; simp at hgt
        have n2 : some g ≠ (Value.slice al ls.length cl).ownBlock := by intro e; have := tlv _ e.symm; rw [hgt] at this; simp at this
        rw [Below.heap_setCell _ _ _ g n1, hg8.block g (by simp; omega) n2, Below.heap_alloc _ _ g (by omega)]
      have d2 := bk8.cell (k := 2) (u := .slice al ls.length cl) rfl
      have d3 := bk8.cell (k := 3) (u := tv) rfl
      have fz := bk8.frozen
      have hs8 : (w8.setCell ⟨gb, 2, none⟩ (.slice (some ⟨G1, 0, none⟩) (ls.length + 1) f1)).heap.size = w8.heap.size := by simp [World.setCell]
      have b9 := bk8.set 2 (.slice (some ⟨G1, 0, none⟩) (ls.length + 1) f1)
      clear c2 cA r7 t7 bk7 r7t
      go_wp2_with (at_builtin; refine wpList_append_lies _ rfl _ _ 43 rfl 0 86 i0 (.slice none 0 0) 1 24 Tryz.underlying43 hi hz0 hz1 hz2 rfl (by omega) tv ts.length ts rfl ?qown2 ⟨w8.heap.size, 0, none⟩ 3 3 [.slice (some ⟨g1, 0, none⟩) (W.length + 1) e1, .slice (some ⟨g2, 0, none⟩) (W.length + 2) e2, .slice (some ⟨g3, 0, none⟩) (W.length + 3) e3] rfl rfl ?qnews2 ?q12 (by omega) ?q632 ?qby2 (Nat.zero_le _) (w8.heap.size + 1) ?qH2 ?_)
      case qown2 => exact ot8.alloc _
      case qnews2 => exact news_vals _ _ (by simp) _ _ rfl _
      case q12 => intro u hu; simp only [List.mem_cons, List.not_mem_nil, or_false] at hu; rcases hu with rfl | rfl | rfl <;> rfl
      case q632 => unfold maxLen; omega
      case qby2 => omega
      case qH2 => simp
      intro G2 f2 w10 own10 hg10 hat10 hlt10
      have ne2 : some gb ≠ tv.ownBlock := by intro e; have := ttv _ e.symm; rw [tgb] at this; simp at this
      have b10 : Blk w10 gb _ _ := b9.keep ((hg10.block gb (by have := b9.lt; simp; omega) ne2).trans (Below.heap_alloc _ _ gb b9.lt))
      have e3' := b10.cell (k := 3) (u := tv) rfl
      have fz' := b10.frozen
      clear d2 d3 fz
      go_wp2
      go_ret
      obtain ⟨o', tr, fr⟩ := h.push b7 HT.out.symm oa7 o1'' o2' o3 own8 hg8 hat8 hlt8 own10 hg10 hat10 hlt10
      exact ⟨by first | rfl | simp, o', _, _, _, _, tr, fr, by simp⟩

end
end Go.Proofs.YtlafkpaljibonaaGreat
