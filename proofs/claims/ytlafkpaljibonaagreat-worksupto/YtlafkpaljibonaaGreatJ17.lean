import Derived.Test.YtlafkpaljibonaaGreatJ16
import Derived.Test.YtlafkpaljibonaaGreatJ3
namespace Go.Proofs.YtlafkpaljibonaaGreat
open Go.RowKit

section
variable {p : Nat} {o : Nat → Tag} {w : World} {gb fb wb : Nat} {ls ts : List Value} {lv tv : Value} {m : PM} {sv : Nat → Value} {rv : Value} {M : RM} {nv : Nat → Value} {kv qv : Value}

theorem Trio.push (h : Trio p o w gb fb wb ls ts lv tv m sv rv M nv kv qv) {w7 w8 w10 : World} (hb7 : Below w.heap.size w w7) {a x1 x2 x3 : Value} {na n1 n2 n3 : Nat} {t : Int} (ht : t = -1 - (ls.length : Int))
    (oa : ownM t w7 w.heap.size a na) (o1 : ownM t w7 w.heap.size x1 n1) (o2 : ownM t w7 w.heap.size x2 n2) (o3 : ownM t w7 w.heap.size x3 n3) {X Y : Obj}
    {G1 c1 : Nat} (own8 : w8.ownsRow 0 86 1 (.slice (some ⟨G1, 0, none⟩) (ls.length + 1) c1) (ls.length + 1) (ls ++ [a])) (hg8 : (w7.alloc X).grownBy w8 lv.ownBlock) (hat8 : lv.ownBlock = some G1 ∨ G1 = w7.heap.size + 1) (hlt8 : G1 < w8.heap.size)
    {G2 c2 : Nat} (own10 : w10.ownsRow 0 86 1 (.slice (some ⟨G2, 0, none⟩) (ts.length + 3) c2) (ts.length + 3) (ts ++ [x1, x2, x3])) (hg10 : ((w8.setCell ⟨gb, 2, none⟩ (.slice (some ⟨G1, 0, none⟩) (ls.length + 1) c1)).alloc Y).grownBy w10 tv.ownBlock) (hat10 : tv.ownBlock = some G2 ∨ G2 = w8.heap.size + 1) (hlt10 : G2 < w10.heap.size) :
    ∃ o', Trio p o' (w10.setCell ⟨gb, 3, none⟩ (.slice (some ⟨G2, 0, none⟩) (ts.length + 3) c2)) gb fb wb (ls ++ [a]) (ts ++ [x1, x2, x3]) (.slice (some ⟨G1, 0, none⟩) (ls.length + 1) c1) (.slice (some ⟨G2, 0, none⟩) (ts.length + 3) c2) m sv rv M nv kv qv ∧
      Fr (p + 3) o w o' (w10.setCell ⟨gb, 3, none⟩ (.slice (some ⟨G2, 0, none⟩) (ts.length + 3) c2)) := by
  have hgb := h.g.blk.lt
  have hs7 := hb7.size
  have hs8 : w7.heap.size + 1 ≤ w8.heap.size := by have := hg8.size; simpa using this
  have hs10 : w8.heap.size + 1 ≤ w10.heap.size := by have := hg10.size; simpa [World.setCell] using this
  have hlv := h.g.lists.1.lt
  have htv := h.g.tails.1.lt
  have tlv := h.g.lists.2
  have ttv := h.g.tails.2
  -- whatever is not written is as it was in w7
  have hsame : ∀ x, x < w7.heap.size → x ≠ gb → some x ≠ lv.ownBlock → some x ≠ tv.ownBlock → (w10.setCell ⟨gb, 3, none⟩ (.slice (some ⟨G2, 0, none⟩) (ts.length + 3) c2)).heap[x]? = w7.heap[x]? := by
    intro x hx h1 h2 h3
    rw [Below.heap_setCell _ _ _ x h1, hg10.block x (by simp [World.setCell]; omega) h3, Below.heap_alloc _ _ x (by simp [World.setCell]; omega), Below.heap_setCell _ _ _ x h1, hg8.block x (by simp; omega) h2, Below.heap_alloc _ _ x hx]
  have hfresh : ∀ x, w.heap.size ≤ x → x < w7.heap.size → (w10.setCell ⟨gb, 3, none⟩ (.slice (some ⟨G2, 0, none⟩) (ts.length + 3) c2)).heap[x]? = w7.heap[x]? := by
    intro x h1 h2
    refine hsame x h2 (by omega) ?_ ?_
    · intro e; have := (hlv x e.symm).2; omega
    · intro e; have := (htv x e.symm).2; omega
  have hold : ∀ x, x < w.heap.size → x ≠ gb → some x ≠ lv.ownBlock → some x ≠ tv.ownBlock → (w10.setCell ⟨gb, 3, none⟩ (.slice (some ⟨G2, 0, none⟩) (ts.length + 3) c2)).heap[x]? = w.heap[x]? := by
    intro x hx h1 h2 h3
    rw [hsame x (by omega) h1 h2 h3]; exact hb7.block x hx
  have hneq : ∀ x, x < w.heap.size → (o x).1 ≠ p + 3 → x ≠ gb ∧ some x ≠ lv.ownBlock ∧ some x ≠ tv.ownBlock := by
    intro x hx hq
    refine ⟨?_, ?_, ?_⟩
    · rintro rfl; rw [h.g.tag] at hq; exact hq rfl
    · intro e; rw [tlv x e.symm] at hq; exact hq rfl
    · intro e; rw [ttv x e.symm] at hq; exact hq rfl
  have hneq9 : ∀ x, x < w.heap.size → o x = (p + 3, 9) → x ≠ gb ∧ some x ≠ lv.ownBlock ∧ some x ≠ tv.ownBlock := by
    intro x hx hq
    refine ⟨?_, ?_, ?_⟩
    · rintro rfl; rw [h.g.tag] at hq; simp at hq
    · intro e; rw [tlv x e.symm] at hq; simp at hq
    · intro e; rw [ttv x e.symm] at hq; simp at hq
  let o' : Nat → Tag := fun g => if g < w.heap.size then o g else if g = G1 then (p + 3, 2) else if g = G2 then (p + 3, 3) else if g < w10.heap.size then (p + 3, 9) else (0, 0)
  have oold : ∀ g, g < w.heap.size → o' g = o g := fun g hg => by simp only [o', if_pos hg]
  have hszE : (w10.setCell ⟨gb, 3, none⟩ (.slice (some ⟨G2, 0, none⟩) (ts.length + 3) c2)).heap.size = w10.heap.size := by simp [World.setCell]
  have hclean : Clean o' (w10.setCell ⟨gb, 3, none⟩ (.slice (some ⟨G2, 0, none⟩) (ts.length + 3) c2)) := by
    intro g hg
    rw [hszE] at hg
    have e1 : ¬ g < w.heap.size := by omega
    have e2 : g ≠ G1 := by omega
    have e3 : g ≠ G2 := by omega
    have e4 : ¬ g < w10.heap.size := by omega
    simp only [o', if_neg e1, if_neg e2, if_neg e3, if_neg e4]
  have hG1 : G1 < w.heap.size ∧ lv.ownBlock = some G1 ∨ w7.heap.size < G1 := by
    rcases hat8 with e | e
    · exact .inl ⟨(hlv _ e).2, e⟩
    · right; omega
  have hG2 : G2 < w.heap.size ∧ tv.ownBlock = some G2 ∨ w8.heap.size < G2 := by
    rcases hat10 with e | e
    · exact .inl ⟨(htv _ e).2, e⟩
    · right; omega
  have hG1b : G1 ≠ gb := by
    rcases hG1 with ⟨h1, h2⟩ | h1
    · rintro rfl; have := tlv _ h2; rw [h.g.tag] at this; simp at this
    · omega
  have hG2b : G2 ≠ gb := by
    rcases hG2 with ⟨h1, h2⟩ | h1
    · rintro rfl; have := ttv _ h2; rw [h.g.tag] at this; simp at this
    · omega
  have hG1t : some G1 ≠ tv.ownBlock := by
    intro e
    have e2 := ttv _ e.symm
    rcases hG1 with ⟨h1, h2⟩ | h1
    · have := tlv _ h2; rw [this] at e2; simp at e2
    · have := (htv _ e.symm).2; omega
  have hG12 : G1 ≠ G2 := by
    rcases hG1 with ⟨h1, h2⟩ | h1
    · rcases hG2 with ⟨h3, h4⟩ | h3
      · intro e; exact hG1t (by rw [e]; exact h4.symm)
      · omega
    · rcases hG2 with ⟨h3, h4⟩ | h3
      · omega
      · omega
  have oG1 : o' G1 = (p + 3, 2) := by
    rcases hG1 with ⟨h1, h2⟩ | h1
    · rw [oold _ h1]; exact tlv _ h2
    · have e1 : ¬ G1 < w.heap.size := by omega
      simp only [o', if_neg e1, if_true]
  have oG2 : o' G2 = (p + 3, 3) := by
    rcases hG2 with ⟨h1, h2⟩ | h1
    · rw [oold _ h1]; exact ttv _ h2
    · have e1 : ¬ G2 < w.heap.size := by omega
      simp only [o', if_neg e1, if_neg (Ne.symm hG12), if_true]
  have hfr : Fr (p + 3) o w o' (w10.setCell ⟨gb, 3, none⟩ (.slice (some ⟨G2, 0, none⟩) (ts.length + 3) c2)) := by
    refine ⟨?_, ?_, ?_, by rw [hszE]; omega, hclean, oold, fun x hx hq => ?_⟩
    · exact (hg10.os.trans (hg8.os.trans hb7.os))
    · exact (hg10.tape.trans (hg8.tape.trans hb7.tape))
    · exact (hg10.output.trans (hg8.output.trans hb7.output))
    · obtain ⟨h1, h2, h3⟩ := hneq x hx hq
      exact hold x hx h1 h2 h3
  have hrow9 : ∀ {v : Value} {n : Nat}, ownM t w7 w.heap.size v n → Row o' (w10.setCell ⟨gb, 3, none⟩ (.slice (some ⟨G2, 0, none⟩) (ts.length + 3) c2)) (p + 3, 9) 89 2 v n (ms t n) := by
    intro v n hv
    have hlt := World.ownsRow.lt hv
    refine ⟨own_keepAt hv (fun g hg => hfresh g (hlt g hg).1 (hlt g hg).2) (Nat.zero_le _), fun g hg => ?_⟩
    obtain ⟨h1, h2⟩ := hlt g hg
    have e1 : ¬ g < w.heap.size := by omega
    have e2 : g ≠ G1 := by rcases hG1 with ⟨h3, -⟩ | h3 <;> omega
    have e3 : g ≠ G2 := by rcases hG2 with ⟨h3, -⟩ | h3 <;> omega
    have e4 : g < w10.heap.size := by omega
    simp only [o', if_neg e1, if_neg e2, if_neg e3, if_pos e4]
  refine ⟨o', ⟨⟨?_, ?_, ?_, ?_, ?_, ?_, ?_⟩, h.f.fr hfr (by omega), h.r.fr hfr (by omega)⟩, hfr⟩
  · -- the game's own cells
    have b7 := h.g.blk.below (hb7.mono (Nat.le_refl _))
    have ne1 : some gb ≠ lv.ownBlock := by intro e; have := tlv _ e.symm; rw [h.g.tag] at this; simp at this
    have ne2 : some gb ≠ tv.ownBlock := by intro e; have := ttv _ e.symm; rw [h.g.tag] at this; simp at this
    have b8 : Blk w8 gb _ _ := b7.keep ((hg8.block gb (by simp; omega) ne1).trans (Below.heap_alloc _ _ gb (by omega)))
    have b9 := b8.set 2 (.slice (some ⟨G1, 0, none⟩) (ls.length + 1) c1)
    have b10 : Blk w10 gb _ _ := b9.keep ((hg10.block gb (by simp [World.setCell]; omega) ne2).trans (Below.heap_alloc _ _ gb (by simp [World.setCell]; omega)))
    exact b10.set 3 (.slice (some ⟨G2, 0, none⟩) (ts.length + 3) c2)
  · rw [oold _ hgb]; exact h.g.tag
  · refine ⟨?_, fun g hg => ?_⟩
    · rw [List.length_append]
      refine own_keepAt own8 (fun g hg => ?_) (Nat.le_refl _)
      have : g = G1 := by simpa [Value.ownBlock] using hg.symm
      subst this
      rw [Below.heap_setCell _ _ _ g hG1b, hg10.block g (by simp [World.setCell]; omega) hG1t, Below.heap_alloc _ _ g (by simp [World.setCell]; omega), Below.heap_setCell _ _ _ g hG1b]
    · have : g = G1 := by simpa [Value.ownBlock] using hg.symm
      rw [this]; exact oG1
  · refine ⟨?_, fun g hg => ?_⟩
    · rw [List.length_append]
      refine own_keepAt own10 (fun g hg => ?_) (Nat.le_refl _)
      have : g = G2 := by simpa [Value.ownBlock] using hg.symm
      subst this
      exact Below.heap_setCell _ _ _ g hG2b
    · have : g = G2 := by simpa [Value.ownBlock] using hg.symm
      rw [this]; exact oG2
  · have := h.g.len; simp; omega
  · intro k hk
    by_cases hkl : k < ls.length
    · rw [List.getElem_append_left hkl]
      obtain ⟨n, hn⟩ := h.g.ml k hkl
      exact ⟨n, hn.keep oold fun g hg hq => by obtain ⟨h1, h2, h3⟩ := hneq9 g hg hq; exact hold g hg h1 h2 h3⟩
    · have : k = ls.length := by simp at hk; omega
      subst this
      rw [List.getElem_append_right (Nat.le_refl _)]
      simp only [Nat.sub_self, List.getElem_cons_zero]
      rw [← ht]
      exact ⟨na, hrow9 oa⟩
  · intro k hk
    by_cases hkl : k < ts.length
    · rw [List.getElem_append_left hkl]
      obtain ⟨n, hn⟩ := h.g.mt k hkl
      exact ⟨n, hn.keep oold fun g hg hq => by obtain ⟨h1, h2, h3⟩ := hneq9 g hg hq; exact hold g hg h1 h2 h3⟩
    · have hl := h.g.len
      have hk2 : k < ts.length + 3 := by simpa using hk
      have hd : k / 3 = ls.length := by omega
      rw [List.getElem_append_right (by omega), hd, ← ht]
      have : k - ts.length = 0 ∨ k - ts.length = 1 ∨ k - ts.length = 2 := by omega
      rcases this with e | e | e
      · simp only [e, List.getElem_cons_zero]; exact ⟨n1, hrow9 o1⟩
      · simp only [e, List.getElem_cons_succ, List.getElem_cons_zero]; exact ⟨n2, hrow9 o2⟩
      · simp only [e, List.getElem_cons_succ, List.getElem_cons_zero]; exact ⟨n3, hrow9 o3⟩
end
end Go.Proofs.YtlafkpaljibonaaGreat

namespace Go.Proofs.YtlafkpaljibonaaGreat
open Go.RowKit

theorem wpList_append_M {ops : Array Oper} {rest : List Oper} {o : Oper} {a : Act} {Q : Exit → Act → World → Prop} (t : Int) (w : World) (hgd : o.guard = none) (s x : Operand)
    (ho : o.op = .call { callee := .builtin .append, args := #[s, x], argTypes := #[86, 86] })
    (base : Nat) (v : Value) (n : Nat) (hs : a.eval s = v) (hown : ownM t w base v n) (ad : Addr) (m c : Nat) (hx : a.eval x = .slice (some ad) m c)
    (hnews : ∀ j u, (ms t m)[j]? = some u → w.cell? (ad.add j) = some u) (hm : 0 < m) (hb : n + m ≤ 1000000000000) (hbase : base ≤ w.heap.size)
    (h : ∀ g cap w', ownM t w' base (.slice (some ⟨g, 0, none⟩) (n + m) cap) (n + m) → w.grownBy w' v.ownBlock → (∀ base' u k, ownM t w base' u k → ownM t w' base' u k) → g < w'.heap.size → wpList Tryz.prog ops Q rest (a.put o.dst (.slice (some ⟨g, 0, none⟩) (n + m) cap)) w') :
    wpList Tryz.prog ops Q (o :: rest) a w := by
  obtain ⟨g, cap, w', hr, h2, h3, h4, h5, -⟩ := append_M t w o.type base v n hown ad m c hnews hm hb hbase
  refine wpList_plain hgd fun K hK => ?_
  unfold Oper.wp execOp
  simp only [ho, resolve, invoke, builtin, Sem.run_bind, Sem.run_pure, Result.andThen_ok, List.map_toArray, List.map_cons, List.map_nil, hs, hx, hr]
  exact hK _ _ (h g cap w' h2 h3 h4 h5)

theorem news_ms (W : World) (g : Nat) (hg : W.heap.size = g) (t : Int) (m : Nat) (cs : Array Value) (hcs : cs.toList = ms t m) (T : TypeId) : ∀ j u, (ms t m)[j]? = some u → (W.alloc (.cells cs T)).cell? ((⟨g, 0, none⟩ : Addr).add j) = some u := by
  subst hg
  rw [← hcs]
  exact World.news_of_block (heap_alloc_new W _)

theorem news_vals (W : World) (g : Nat) (hg : W.heap.size = g) (l : List Value) (cs : Array Value) (hcs : cs.toList = l) (T : TypeId) : ∀ j u, l[j]? = some u → (W.alloc (.cells cs T)).cell? ((⟨g, 0, none⟩ : Addr).add j) = some u := by
  subst hg
  rw [← hcs]
  exact World.news_of_block (heap_alloc_new W _)

theorem infoKeys : (Tryz.prog.info? 86).map (fun i => (i.zero, i.size, i.bytes)) = some (some (.slice none 0 0), 1, 24) := by kernel_rfl

theorem ms_step (t : Int) (W : List (Int × Int)) (j : Nat) (h : j < W.length) :
    ((ms t j ++ keyCells (W.drop j)).set (j * 2) (.int .i64 t)).set (j * 2 + 1) (.int .i64 (-1)) = ms t (j + 1) ++ keyCells (W.drop (j + 1)) := by
  have e : keyCells (W.drop j) = .int .i64 W[j].1 :: .int .i64 W[j].2 :: keyCells (W.drop (j + 1)) := by
    rw [List.drop_eq_getElem_cons h]; rfl
  rw [e, List.set_append_right _ _ (by rw [ms_length]; omega), ms_length, Nat.sub_self, List.set_append_right _ _ (by rw [ms_length]; omega), ms_length]
  rw [show j * 2 + 1 - j * 2 = 1 from by omega, ms_add t j 1]
  simp [ms, keyCells]

theorem ms_rest (t : Int) (W : List (Int × Int)) (j : Nat) (h : j < W.length) :
    (ms t j ++ keyCells (W.drop j))[j * 2]? = some (.int .i64 W[j].1) ∧ (ms t j ++ keyCells (W.drop j))[j * 2 + 1]? = some (.int .i64 W[j].2) := by
  have e : keyCells (W.drop j) = .int .i64 W[j].1 :: .int .i64 W[j].2 :: keyCells (W.drop (j + 1)) := by
    rw [List.drop_eq_getElem_cons h]; rfl
  rw [e, List.getElem?_append_right (by rw [ms_length]; omega), List.getElem?_append_right (by rw [ms_length]; omega), ms_length, Nat.sub_self, show j * 2 + 1 - j * 2 = 1 from by omega]
  simp

/-- While the owner writes over his list. -/
structure Bl (w : World) (B1 B2 n : Nat) (a b : Value) (xs ys : List Value) (t : Int) (W : World) : Prop where
  oa : W.ownsRow w.heap.size 89 2 a n xs
  ob : W.ownsRow B1 89 2 b n ys
  x : Blk W B2 89 [.int .i64 t, .int .i64 (-1)]
  bel : Below w.heap.size w W

theorem Bl.step {w : World} {B1 B2 n : Nat} {a b : Value} {ys : List Value} {t : Int} {W W' : World} {o : Obj} (h : Bl w B1 B2 n a b (ms t n) ys t W) (ha : ∀ k, a.ownBlock = some k → w.heap.size ≤ k ∧ k < B1) (hB : B1 ≤ B2)
    (hg : (W.alloc o).grownBy W' a.ownBlock) (hk : ∀ base' u k, ownM t (W.alloc o) base' u k → ownM t W' base' u k) : Bl w B1 B2 n a b (ms t n) ys t W' := by
  have hne : some B2 ≠ a.ownBlock := fun e => by have := ha _ e.symm; omega
  refine ⟨hk _ _ _ (World.ownsRow.alloc h.oa o), (h.ob.alloc o).kept hg ?_, ?_, (h.bel.alloc (by have := h.bel.size; omega) o).grown hg (by have := h.bel.size; simp; omega) (fun k e => (ha k e).1)⟩
  · rcases hb : b.ownBlock with _ | kb
    · exact .inl rfl
    · right
      have := h.ob.lt kb hb
      intro e
      have := ha kb e.symm
      omega
  · exact h.x.keep ((hg.block B2 (by have := h.x.lt; simp; omega) hne).trans (Below.heap_alloc _ _ B2 h.x.lt))

section
variable {p : Nat} {o : Nat → Tag} {w : World} {gb fb wb : Nat} {ls ts : List Value} {lv tv : Value} {m : PM} {sv : Nat → Value} {rv : Value} {M : RM} {nv : Nat → Value} {kv qv : Value}

set_option maxRecDepth 100000 in
set_option maxHeartbeats 4000000 in
theorem gbacklog_any (h : Trio p o w gb fb wb ls ts lv tv m sv rv M nv kv qv) (hwf : M.wf) (hW : M.waits = m.waits) (h1 : m.req.length ≤ 100000000000) (h2 : M.queue.length ≤ 100000000000) (h3 : ls.length ≤ 100000000000) :
    Calls Tryz.prog 19 #[.pointer (some ⟨gb, 0, none⟩)] w fun r w' => r = .returned (.bool true) ∧ ∃ o' ls' ts' lv' tv', Trio p o' w' gb fb wb ls' ts' lv' tv' m sv rv M nv kv qv ∧ Fr (p + 3) o w o' w' ∧ ls'.length = ls.length + 1 := by
  obtain ⟨i0, hi, hz0, hz1, hz2⟩ := info_parts infoKeys
  have hwl : m.waits.length ≤ 100000000000 := by
    have : m.waits.length ≤ m.req.length := by simp only [PM.waits, List.length_map]; exact List.length_filter_le _ _
    omega
  have hts : ts.length ≤ 300000000000 := by have := h.g.len; omega
  have k1 : Hid (∀ w', FMem o (p + 1) w' fb m sv rv → Calls Tryz.prog 41 #[.pointer (some ⟨fb, 0, none⟩)] w' fun r w'' => ∃ v, r = .returned v ∧ w''.ownsRow w'.heap.size 89 2 v m.waits.length (keyCells m.waits) ∧ Below w'.heap.size w' w'') := fun w' h' => backlog_any h' (by omega)
  have k2 : Hid (∀ w', RMem o (p + 2) w' wb M nv kv qv → Calls Tryz.prog 42 #[.pointer (some ⟨wb, 0, none⟩)] w' fun r w'' => ∃ v, r = .returned v ∧ w''.ownsRow w'.heap.size 89 2 v m.waits.length (keyCells m.waits) ∧ Below w'.heap.size w' w'') := fun w' h' => hW ▸ rBacklog_any h' hwf (by omega)
  clear hW h1 h2
  generalize m.waits = W at *
  have c0 := h.g.fc
  go_enter Tryz.func19, Tryz.ntmps19
  go_wp2_with fail
  refine (k1.out _ h.f).mono ?_
  rintro e w1 ⟨va, rfl, oa, b1⟩
  have t1 := h.below b1
  have c1 := t1.g.wc
  clear c0
  go_wp2_with fail
  refine (k2.out _ t1.r).mono ?_
  rintro e w2 ⟨vb, rfl, ob, b2⟩
  have t2 := t1.below b2
  have oa2 := own_keepAt oa (fun g hg => b2.block g (oa.lt g hg).2) (Nat.le_refl _)
  have b12 : Below w.heap.size w w2 := b1.trans (b2.mono b1.size)
  have ha1 := oa.lt
  have hs1 := b1.size
  have hs2 := b2.size
  clear c1 oa b1 b2 k1 k2 t1
  obtain ⟨aa, ca, rfl, hna, ha0⟩ := own_slice oa2
  obtain ⟨ab, cb, rfl, hnb, hb0⟩ := own_slice ob
  obtain ⟨al, cl, rfl, hnl, -⟩ := h.g.lists.form
  have c2 := t2.g.lc
  go_wp2_with fail
  have hX := Blk.made w2 89 [.int .i64 (-1 - (ls.length : Int)), .int .i64 (-1)]
  have bl0 : Bl w w1.heap.size w2.heap.size W.length (.slice aa W.length ca) (.slice ab W.length cb) (ms (-1 - (ls.length : Int)) 0 ++ keyCells (W.drop 0)) (keyCells W) (-1 - (ls.length : Int)) (w2.alloc (.cells #[.int .i64 (-1 - (ls.length : Int)), .int .i64 (-1)] 89)) :=
    ⟨oa2.alloc _, ob.alloc _, hX, b12.alloc (by omega) _⟩
  go_loopw [6, 7] (fun s i w' => ∃ j : Nat, j ≤ W.length ∧ s = .bool true ∧ i = .int .i64 j ∧ Bl w w1.heap.size w2.heap.size W.length (.slice aa W.length ca) (.slice ab W.length cb) (ms (-1 - (ls.length : Int)) j ++ keyCells (W.drop j)) (keyCells W) (-1 - (ls.length : Int)) w') (fun _ i _ => W.length - (intOf i).toNat)
  case atStart => exact ⟨0, by omega, rfl, rfl, bl0⟩
  case round =>
    clear bl0 hX c2
    obtain ⟨j, hj, rfl, rfl, bl⟩ := hrel
    generalize ht : (-1 - (ls.length : Int)) = t at *
    have HT : Hid _ := ht
    clear ht
    by_cases hlt : j < W.length
    · obtain ⟨ga, rfl, hga0, hga⟩ := ha0 (by omega)
      obtain ⟨gq, rfl, hgb0, hgb⟩ := hb0 (by omega)
      have hga1 := ha1 ga rfl
      have p0 := bl.oa.cellAt (j * 2) (by omega)
      have p1 := bl.oa.cellAt (j * 2 + 1) (by omega)
      rw [(ms_rest t W j hlt).1] at p0
      rw [(ms_rest t W j hlt).2] at p1
      have q0 := bl.ob.cellAt (j * 2) (by omega)
      have q1 := bl.ob.cellAt (j * 2 + 1) (by omega)
      rw [(keyCells_get W j hlt).1] at q0
      rw [(keyCells_get W j hlt).2] at q1
      have x0 := bl.x.cell (k := 0) (u := .int .i64 t) rfl
      have x1 := bl.x.cell (k := 1) (u := .int .i64 (-1)) rfl
      have f0 : ∀ i, wr.frozen? ⟨ga, i, none⟩ = false := fun i => bl.oa.frozenAt i
      have HR := ms_step t W j hlt
      generalize W[j] = K at *
      go_wp2
      go_quiet (fail)
      go_wp2
      have hg1 : ga ≠ w2.heap.size := by omega
      refine ⟨⟨j + 1, by omega, by first | rfl | simp, by go_num, ?_⟩, by simp [intOf]; omega⟩
      have s1 := bl.oa.stored (j * 2) (.int .i64 t)
      have s2 := s1.1.stored (j * 2 + 1) (.int .i64 (-1))
      rw [HR] at s2
      refine ⟨s2.1, ?_, ?_, ?_⟩
      · exact ownsRow_setCell_below (ownsRow_setCell_below bl.ob hga1.2 _) hga1.2 _
      · exact (bl.x.keep (Below.heap_setCell _ _ _ _ (by simpa using hg1.symm))).keep (Below.heap_setCell _ _ _ _ (by simpa using hg1.symm))
      · exact ((below_dN bl.bel).setCell hga1.1 _).setCell hga1.1 _
    · have hjn : j = W.length := by omega
      subst hjn
      have st : Bl w w1.heap.size w2.heap.size W.length (.slice aa W.length ca) (.slice ab W.length cb) (ms t W.length) (keyCells W) t wr := by
        have := bl
        rw [List.drop_length, show keyCells [] = [] from rfl, List.append_nil] at this
        exact this
      clear bl hlt hj
      have x0 := st.x.cell (k := 0) (u := .int .i64 t) rfl
      have x1 := st.x.cell (k := 1) (u := .int .i64 (-1)) rfl
      have z := st.bel.size
      go_wp2_with (at_builtin; refine wpList_append_M t _ rfl _ _ rfl w.heap.size _ W.length rfl (World.ownsRow.alloc st.oa _) ⟨wr.heap.size, 0, none⟩ 1 1 rfl (news_ms _ _ (by simp) t 1 _ rfl _) (by omega) (by omega) (by simp; omega) ?_)
      intro g1 e1 w5 o1 hg hk lt1
      have st5 := st.step ha1 hs2 hg hk
      clear st hg hk x0 x1 z
      have x0 := st5.x.cell (k := 0) (u := .int .i64 t) rfl
      have x1 := st5.x.cell (k := 1) (u := .int .i64 (-1)) rfl
      have z := st5.bel.size
      go_wp2_with (at_builtin; refine wpList_append_M t _ rfl _ _ rfl w.heap.size _ W.length rfl (World.ownsRow.alloc st5.oa _) ⟨w5.heap.size, 0, none⟩ 2 2 rfl (news_ms _ _ (by simp) t 2 _ rfl _) (by omega) (by omega) (by simp; omega) ?_)
      intro g2 e2 w6 o2 hg hk lt2
      have st6 := st5.step ha1 hs2 hg hk
      have o1' := hk _ _ _ (World.ownsRow.alloc o1 _)
      clear st5 hg hk x0 x1 z o1 lt1
      have x0 := st6.x.cell (k := 0) (u := .int .i64 t) rfl
      have x1 := st6.x.cell (k := 1) (u := .int .i64 (-1)) rfl
      have z := st6.bel.size
      go_wp2_with (at_builtin; refine wpList_append_M t _ rfl _ _ rfl w.heap.size _ W.length rfl (World.ownsRow.alloc st6.oa _) ⟨w6.heap.size, 0, none⟩ 3 3 rfl (news_ms _ _ (by simp) t 3 _ rfl _) (by omega) (by omega) (by simp; omega) ?_)
      intro g3 e3 w7 o3 hg hk lt3
      have st7 := st6.step ha1 hs2 hg hk
      have o1'' := hk _ _ _ (World.ownsRow.alloc o1' _)
      have o2' := hk _ _ _ (World.ownsRow.alloc o2 _)
      have oa7 : ownM t w7 w.heap.size (.slice aa W.length ca) W.length := st7.oa
      have b7 := st7.bel
      clear st6 st7 hg hk x0 x1 z o1' o2 lt2 lt3 ha0 hb0 oa2 ob t2 b12
      have t7 := h.below (b7.mono (Nat.le_refl _))
      have c2 := t7.g.lc
      have cA := fun ob => (t7.below ((Below.refl _ _).alloc (Nat.le_refl _) ob)).g
      have r7 := t7.g.lists.1
      have z7 := b7.size
      go_wp2_with (at_builtin; refine wpList_append_lies _ rfl _ _ 43 rfl 0 86 i0 (.slice none 0 0) 1 24 Tryz.underlying43 hi hz0 hz1 hz2 rfl (by omega) _ ls.length ls rfl ?qown ⟨w7.heap.size, 0, none⟩ 1 1 [.slice aa W.length ca] rfl rfl ?qnews ?q1 (by omega) ?q63 ?qby (Nat.zero_le _) (w7.heap.size + 1) ?qH ?_)
      case qown => exact r7.alloc _
      case qnews => exact news_vals _ _ (by simp) _ _ rfl _
      case q1 => intro u hu; simp only [List.mem_cons, List.not_mem_nil, or_false] at hu; subst hu; rfl
      case q63 => unfold maxLen; omega
      case qby => omega
      case qH => simp
      intro G1 f1 w8 own8 hg8 hat8 hlt8
      have tgb := h.g.tag
      have tlv := h.g.lists.2
      have ttv := h.g.tails.2
      have ltv := h.g.tails.1.lt
      have ne1 : some gb ≠ (Value.slice al ls.length cl).ownBlock := by intro e; have := tlv _ e.symm; rw [tgb] at this; simp at this
      have bk7 := t7.g.blk
      have r7t := t7.g.tails.1
      have bk8 : Blk w8 gb _ _ := bk7.keep ((hg8.block gb (by have := bk7.lt; simp; omega) ne1).trans (Below.heap_alloc _ _ gb bk7.lt))
      have ot8 : (w8.setCell ⟨gb, 2, none⟩ (.slice (some ⟨G1, 0, none⟩) (ls.length + 1) f1)).ownsRow 0 86 1 tv ts.length ts := by
        refine own_keepAt r7t (fun g hg => ?_) (Nat.le_refl _)
        have hgl := ltv g hg
        have hgt := ttv g hg
        have n1 : g ≠ gb := by rintro rfl; rw [tgb] at hgt; simp at hgt
        have n2 : some g ≠ (Value.slice al ls.length cl).ownBlock := by intro e; have := tlv _ e.symm; rw [hgt] at this; simp at this
        rw [Below.heap_setCell _ _ _ g n1, hg8.block g (by simp; omega) n2, Below.heap_alloc _ _ g (by omega)]
      have d2 := bk8.cell (k := 2) (u := .slice al ls.length cl) rfl
      have d3 := bk8.cell (k := 3) (u := tv) rfl
      have fz := bk8.frozen
      have hs8 : (w8.setCell ⟨gb, 2, none⟩ (.slice (some ⟨G1, 0, none⟩) (ls.length + 1) f1)).heap.size = w8.heap.size := by simp [World.setCell]
      have b9 := bk8.set 2 (.slice (some ⟨G1, 0, none⟩) (ls.length + 1) f1)
      clear c2 cA r7 t7 bk7 r7t
      go_wp2_with (at_builtin; refine wpList_append_lies _ rfl _ _ 43 rfl 0 86 i0 (.slice none 0 0) 1 24 Tryz.underlying43 hi hz0 hz1 hz2 rfl (by omega) tv ts.length ts rfl ?qown2 ⟨w8.heap.size, 0, none⟩ 3 3 [.slice (some ⟨g1, 0, none⟩) (W.length + 1) e1, .slice (some ⟨g2, 0, none⟩) (W.length + 2) e2, .slice (some ⟨g3, 0, none⟩) (W.length + 3) e3] rfl rfl ?qnews2 ?q12 (by omega) ?q632 ?qby2 (Nat.zero_le _) (w8.heap.size + 1) ?qH2 ?_)
      case qown2 => exact ot8.alloc _
      case qnews2 => exact news_vals _ _ (by simp) _ _ rfl _
      case q12 => intro u hu; simp only [List.mem_cons, List.not_mem_nil, or_false] at hu; rcases hu with rfl | rfl | rfl <;> rfl
      case q632 => unfold maxLen; omega
      case qby2 => omega
      case qH2 => simp
      intro G2 f2 w10 own10 hg10 hat10 hlt10
      have ne2 : some gb ≠ tv.ownBlock := by intro e; have := ttv _ e.symm; rw [tgb] at this; simp at this
      have b10 : Blk w10 gb _ _ := b9.keep ((hg10.block gb (by have := b9.lt; simp; omega) ne2).trans (Below.heap_alloc _ _ gb b9.lt))
      have e3' := b10.cell (k := 3) (u := tv) rfl
      have fz' := b10.frozen
      clear d2 d3 fz
      go_wp2
      go_ret
      obtain ⟨o', tr, fr⟩ := h.push b7 HT.out.symm oa7 o1'' o2' o3 own8 hg8 hat8 hlt8 own10 hg10 hat10 hlt10
      exact ⟨by first | rfl | simp, o', _, _, _, _, tr, fr, by simp⟩

end
end Go.Proofs.YtlafkpaljibonaaGreat

namespace Go.Proofs.YtlafkpaljibonaaGreat
open Go.RowKit

/-- What the program's foreman shows is what the document's shows. -/
structure Same (m : PM) (M : RM) : Prop where
  op : ∀ n, m.open_ n = M.open_ n
  sent : ∀ n, m.sent_ n = M.sent_ n
  slot : ∀ n, M.slotV n = m.slotV n
  job : ∀ n, M.jobV n = m.jobV n
  jobE : ∀ n, M.stE n 3 = m.jobE n
  waits : M.waits = m.waits
  time : m.time = M.time

theorem slotV_agg (m : PM) (n : Int) : ∃ st old served since conn id, m.slotV n = .agg #[.int .i64 st, .bool old, .int .i64 served, .int .i64 since, .int .i64 conn, .int .i64 id] := by
  unfold PM.slotV
  cases isS n
  · exact ⟨0, false, 0, 0, 0, 0, rfl⟩
  · exact ⟨_, _, _, _, _, _, rfl⟩

section
variable {p : Nat} {o : Nat → Tag} {w : World} {gb fb wb : Nat} {ls ts : List Value} {lv tv : Value} {m : PM} {sv : Nat → Value} {rv : Value} {M : RM} {nv : Nat → Value} {kv qv : Value}

set_option maxRecDepth 100000 in
set_option maxHeartbeats 2000000 in
theorem looks_any (h : Trio p o w gb fb wb ls ts lv tv m sv rv M nv kv qv) (hwf : M.wf) (hlv : ∀ k, k < 6 → M.live k = false) (hS : Same m M)
    (hs : ∀ k, k < 4 → (M.line k).sent.length ≤ 1000000000000) (h1 : m.req.length ≤ 100000000000) (h2 : M.queue.length ≤ 100000000000) (h3 : ls.length ≤ 10000000000) :
    Calls Tryz.prog 11 #[.pointer (some ⟨gb, 0, none⟩)] w fun r w' => r = .returned (.bool true) ∧ ∃ o' ls' ts' lv' tv', Trio p o' w' gb fb wb ls' ts' lv' tv' m sv rv M nv kv qv ∧ Fr (p + 3) o w o' w' ∧ ls'.length = ls.length + 1 := by
  go_enter Tryz.func11, Tryz.ntmps11
  go_wp2
  go_loopw [3, 4] (fun s i w' => ∃ j : Nat, j ≤ 6 ∧ s = .bool true ∧ i = .int .i64 ((j : Int) - 1) ∧ Below w.heap.size w w') (fun _ i _ => 6 - (intOf i + 1).toNat)
  case atStart => exact ⟨0, by omega, rfl, by simp, Below.refl _ _⟩
  case round =>
    obtain ⟨j, hj, rfl, rfl, hb⟩ := hrel
    by_cases hlt : j < 6
    · go_wp2_with fail
      refine (line_any (h.below hb) _ (hS.op _) (hS.sent _) hs).mono ?_
      rintro e w1 ⟨rfl, hb1⟩
      go_wp2
      exact ⟨⟨j + 1, by omega, rfl, by go_num, hb.trans (hb1.mono hb.size)⟩, by simp [intOf]; omega⟩
    · have : j = 6 := by omega
      subst this
      clear hlt hj
      rw [show (((6 : Nat) : Int) - 1) = 5 from rfl]
      go_wp2
      go_loopw [3, 5] (fun s i w' => ∃ j : Nat, j ≤ 8 ∧ s = .bool true ∧ i = .int .i64 ((j : Int) - 1) ∧ Below w.heap.size w w') (fun _ i _ => 8 - (intOf i + 1).toNat)
      case atStart => exact ⟨0, by omega, rfl, by simp, hb⟩
      case round =>
        clear hb
        obtain ⟨j, hj, rfl, rfl, hb⟩ := hrel
        by_cases hlt : j < 8
        · go_wp2_with fail
          refine (gslot_any (h.below hb) hwf hlv _ (hS.slot _) (hS.job _) (hS.jobE _) (slotV_agg m _)).mono ?_
          rintro e w1 ⟨rfl, hb1⟩
          go_wp2
          exact ⟨⟨j + 1, by omega, rfl, by go_num, hb.trans (hb1.mono hb.size)⟩, by simp [intOf]; omega⟩
        · have : j = 8 := by omega
          subst this
          clear hlt hj
          rw [show (((8 : Nat) : Int) - 1) = 7 from rfl]
          have ht := h.below hb
          have hc := h.f.clean
          go_wp2_with fail
          refine (gbacklog_any ht hwf hS.waits h1 h2 (by omega)).mono ?_
          rintro e w2 ⟨rfl, o', ls', ts', lv', tv', t2, fr2, hl2⟩
          have c0 := t2.g.fc
          have c1 := t2.g.wc
          have c2 := t2.g.lc
          have c3 := t2.g.tc
          clear ht
          go_wp2_with fail
          refine (time_any t2.f).mono ?_
          rintro e w3 ⟨rfl, rfl⟩
          go_wp2_with fail
          refine (rTime_any t2.r).mono ?_
          rintro e w4 ⟨rfl, rfl⟩
          go_wp2_with fail
          refine (marked_any 1 (.inl rfl) t2.g.lists (by omega) (fun k hk => by obtain ⟨n, hn⟩ := t2.g.ml k hk; exact ⟨n, by simpa using hn.1⟩)).mono ?_
          rintro e w5 ⟨rfl, hb5⟩
          have t5 := t2.below hb5
          clear c0 c1 c2 c3
          have c3 := t5.g.tc
          have hlt3 := t5.g.len
          have hlt4 : ts'.length ≤ 1000000000000 := by omega
          clear hlt3
          go_wp2_with fail
          refine (marked_any 3 (.inr rfl) t5.g.tails hlt4 (fun k hk => by obtain ⟨n, hn⟩ := t5.g.mt k hk; exact ⟨n, hn.1⟩)).mono ?_
          rintro e w6 ⟨rfl, hb6⟩
          have t6 := t5.below hb6
          have htm := hS.time
          clear c3
          go_wp2
          go_ret
          refine ⟨by simp, o', ls', ts', lv', tv', t6, ?_, hl2⟩
          exact (((Fr.of_below hc hb).trans fr2).below hb5).below hb6
end
end Go.Proofs.YtlafkpaljibonaaGreat

namespace Go.Proofs.YtlafkpaljibonaaGreat
open Go.RowKit

section
variable {o : Nat → Tag} {q : Nat} {w : World} {b : Nat} {m : RM} {lv : Nat → Value} {kv qv : Value}

set_option maxRecDepth 100000 in
set_option maxHeartbeats 8000000 in
theorem rSlot_live (h : RMem o q w b m lv kv qv) (hwf : m.wf) (k : Nat) (hk : k < 6) (hlive : m.live k = true) :
    Calls Tryz.prog 38 #[.pointer (some ⟨b, 0, none⟩), .int .i64 (k : Nat)] w fun r w' => r = .returned (.tuple #[.agg #[.int .i64 (m.slot k).st, .bool (m.slot k).old, .int .i64 (m.slot k).served, .int .i64 (m.slot k).since, .int .i64 (m.key (m.slot k).key).conn, .int .i64 (m.key (m.slot k).key).id], .int .i64 0]) ∧ Below w.heap.size w w' := by
  have h0 : isS (k : Int) = true := by simp [isS]; omega
  have hA := fun ob => (h.alloc ob).slotc hk
  have c0 := fun ob => (hA ob).1
  have c1 := fun ob => (hA ob).2.1
  have c2 := fun ob => (hA ob).2.2.1
  have c3 := fun ob => (hA ob).2.2.2.1
  have c4 := fun ob => (hA ob).2.2.2.2
  clear hA
  have hst : (m.slot k).st = 3 := by simp [RM.live] at hlive; exact hlive.1
  have hkey := hwf.s k hk hst
  clear hst
  obtain ⟨ak, ck, rfl, hkn, hkrow⟩ := h.klist
  obtain ⟨gk, rfl, hgk, hgb, -, -, g0, g1, -, -⟩ := hkrow _ hkey
  have hkv := h.keysv
  have hbl := h.blk.lt
  have hkeyI : ((m.slot k).key : Int) < m.keys.length := by omega
  rw [← m.key_eq hkey] at g0 g1
  clear hkrow
  have hc : Hid (∀ w', RMem o q w' b m lv (.slice (some ⟨gk, 0, none⟩) m.keys.length ck) qv → Calls Tryz.prog 59 #[.pointer (some ⟨b, 0, none⟩), .int .i64 k] w' fun r w'' => r = .returned (.bool true) ∧ Below w'.heap.size w' w'') := fun w' h' => hlive ▸ live_any h' hwf k hk
  generalize (m.key (m.slot k).key).conn = cn at *
  generalize (m.key (m.slot k).key).id = ci at *
  go_enter Tryz.func38, Tryz.ntmps38
  go_wp2_with fail
  refine (rIsSlot_any _ _).mono ?_
  rintro e w1 ⟨rfl, rfl⟩
  rw [h0]
  go_wp2_with fail
  refine (hc.out _ (((h.alloc _).alloc _).alloc _)).mono ?_
  rintro e w2 ⟨rfl, hb⟩
  obtain ⟨k0, k1, k2, kb⟩ := three_blks w [.int .i64 0, .bool false, .int .i64 0, .int .i64 0, .int .i64 0, .int .i64 0] [.int .i64 (m.slot k).st, .int .i64 (m.slot k).served, .int .i64 (m.slot k).since, .bool (m.slot k).old, .int .i64 (m.slot k).key] [.int .i64 (m.slot k).st, .bool (m.slot k).old, .int .i64 (m.slot k).served, .int .i64 (m.slot k).since, .int .i64 (-1), .int .i64 0] 59 71 59
  have j0 := k0.below hb
  have j1 := k1.below hb
  have j2 := k2.below hb
  have hbb : Below w.heap.size w w2 := kb.trans (hb.mono (by simp; omega))
  clear k0 k1 k2 kb hb c0 c1 c2 c3 c4 hc hlive
  rw [← hbb.cell (by exact hbl)] at hkv
  rw [← hbb.cell (by exact hgk)] at g0 g1
  have p4 := j1.cell (k := 4) (u := .int .i64 (m.slot k).key) rfl
  generalize (m.slot k).key = key at *
  have hN1 : w.heap.size ≠ w.heap.size + 1 + 1 := by omega
  have hB2 : b ≠ w.heap.size + 1 + 1 := by omega
  have hG2 : gk ≠ w.heap.size + 1 + 1 := by omega
  have hP2 : w.heap.size + 1 ≠ w.heap.size + 1 + 1 := by omega
  have a4 := j2.cell (k := 4) (u := .int .i64 (-1)) rfl
  have fx := j2.frozen
  have HS1 : Hid (∀ u, (w2.drew.setCell ⟨w.heap.size + 1 + 1, 4, none⟩ u).cell? ⟨b, 54, none⟩ = some (.slice (some ⟨gk, 0, none⟩) m.keys.length ck) ∧ (w2.drew.setCell ⟨w.heap.size + 1 + 1, 4, none⟩ u).cell? ⟨w.heap.size + 1, 4, none⟩ = some (.int .i64 key) ∧ (w2.drew.setCell ⟨w.heap.size + 1 + 1, 4, none⟩ u).cell? ⟨gk, key * 4, none⟩ = some (.int .i64 cn) ∧ (w2.drew.setCell ⟨w.heap.size + 1 + 1, 4, none⟩ u).cell? ⟨gk, key * 4 + 1, none⟩ = some (.int .i64 ci)) := fun u => ⟨(World.cell?_of_block (Below.heap_setCell _ _ _ b hB2)).trans hkv, (World.cell?_of_block (Below.heap_setCell _ _ _ _ hP2)).trans p4, (World.cell?_of_block (Below.heap_setCell _ _ _ gk hG2)).trans g0, (World.cell?_of_block (Below.heap_setCell _ _ _ gk hG2)).trans g1⟩
  go_wp2_with fail
  go_region_held3 (fun w' => w'.cell? ⟨b, 54, none⟩ = some (.slice (some ⟨gk, 0, none⟩) m.keys.length ck) ∧ w'.cell? ⟨w.heap.size + 1, 4, none⟩ = some (.int .i64 key) ∧ w'.cell? ⟨gk, key * 4, none⟩ = some (.int .i64 cn) ∧ w'.cell? ⟨gk, key * 4 + 1, none⟩ = some (.int .i64 ci)) (first | exact ⟨hkv, p4, g0, g1⟩ | exact HS1.out _) (fail)
  have j2' := j2.set 4 (.int .i64 cn)
  have j0' : Blk (w2.setCell ⟨w.heap.size + 1 + 1, 4, none⟩ (.int .i64 cn)).drew w.heap.size 59 [.int .i64 0, .bool false, .int .i64 0, .int .i64 0, .int .i64 0, .int .i64 0] := j0.keep (Below.heap_setCell _ _ _ _ hN1)
  have j2'' : Blk (w2.setCell ⟨w.heap.size + 1 + 1, 4, none⟩ (.int .i64 cn)).drew (w.heap.size + 1 + 1) 59 [.int .i64 (m.slot k).st, .bool (m.slot k).old, .int .i64 (m.slot k).served, .int .i64 (m.slot k).since, .int .i64 cn, .int .i64 0] := j2'
  have hs1 := HS1.out (.int .i64 cn)
  obtain ⟨hkv', p4', g0', g1'⟩ : (w2.setCell ⟨w.heap.size + 1 + 1, 4, none⟩ (.int .i64 cn)).drew.cell? ⟨b, 54, none⟩ = some (.slice (some ⟨gk, 0, none⟩) m.keys.length ck) ∧ (w2.setCell ⟨w.heap.size + 1 + 1, 4, none⟩ (.int .i64 cn)).drew.cell? ⟨w.heap.size + 1, 4, none⟩ = some (.int .i64 key) ∧ (w2.setCell ⟨w.heap.size + 1 + 1, 4, none⟩ (.int .i64 cn)).drew.cell? ⟨gk, key * 4, none⟩ = some (.int .i64 cn) ∧ (w2.setCell ⟨w.heap.size + 1 + 1, 4, none⟩ (.int .i64 cn)).drew.cell? ⟨gk, key * 4 + 1, none⟩ = some (.int .i64 ci) := hs1
  have hbb' : Below w.heap.size w (w2.setCell ⟨w.heap.size + 1 + 1, 4, none⟩ (.int .i64 cn)).drew := (hbb.setCell (by simp; omega) _).drew
  clear hkv p4 g0 g1 a4 fx HS1 j0 j1 j2 j2' hbb
  generalize (w2.setCell ⟨w.heap.size + 1 + 1, 4, none⟩ (.int .i64 cn)).drew = w3 at *
  have a5 := j2''.cell (k := 5) (u := .int .i64 0) rfl
  have fx := j2''.frozen
  have HS2 : Hid (∀ u, (w3.drew.setCell ⟨w.heap.size + 1 + 1, 5, none⟩ u).cell? ⟨b, 54, none⟩ = some (.slice (some ⟨gk, 0, none⟩) m.keys.length ck) ∧ (w3.drew.setCell ⟨w.heap.size + 1 + 1, 5, none⟩ u).cell? ⟨w.heap.size + 1, 4, none⟩ = some (.int .i64 key) ∧ (w3.drew.setCell ⟨w.heap.size + 1 + 1, 5, none⟩ u).cell? ⟨gk, key * 4 + 1, none⟩ = some (.int .i64 ci)) := fun u => ⟨(World.cell?_of_block (Below.heap_setCell _ _ _ b hB2)).trans hkv', (World.cell?_of_block (Below.heap_setCell _ _ _ _ hP2)).trans p4', (World.cell?_of_block (Below.heap_setCell _ _ _ gk hG2)).trans g1'⟩
  go_wp2_with fail
  go_region_held3 (fun w' => w'.cell? ⟨b, 54, none⟩ = some (.slice (some ⟨gk, 0, none⟩) m.keys.length ck) ∧ w'.cell? ⟨w.heap.size + 1, 4, none⟩ = some (.int .i64 key) ∧ w'.cell? ⟨gk, key * 4 + 1, none⟩ = some (.int .i64 ci)) (first | exact ⟨hkv', p4', g1'⟩ | exact HS2.out _) (fail)
  have j5 : Blk (w3.setCell ⟨w.heap.size + 1 + 1, 5, none⟩ (.int .i64 ci)).drew (w.heap.size + 1 + 1) 59 [.int .i64 (m.slot k).st, .bool (m.slot k).old, .int .i64 (m.slot k).served, .int .i64 (m.slot k).since, .int .i64 cn, .int .i64 ci] := j2''.set 5 (.int .i64 ci)
  have j6 : Blk (w3.setCell ⟨w.heap.size + 1 + 1, 5, none⟩ (.int .i64 ci)).drew w.heap.size 59 [.int .i64 0, .bool false, .int .i64 0, .int .i64 0, .int .i64 0, .int .i64 0] := j0'.keep (Below.heap_setCell _ _ _ _ hN1)
  have hb6 : Below w.heap.size w (w3.setCell ⟨w.heap.size + 1 + 1, 5, none⟩ (.int .i64 ci)).drew := (hbb'.setCell (by simp; omega) _).drew
  clear hkv' p4' g0' g1' a5 fx HS2 j0' j2'' hbb'
  generalize (w3.setCell ⟨w.heap.size + 1 + 1, 5, none⟩ (.int .i64 ci)).drew = w4 at *
  have a0 := j5.cell (k := 0) (u := .int .i64 (m.slot k).st) rfl
  have a1 := j5.cell (k := 1) (u := .bool (m.slot k).old) rfl
  have a2 := j5.cell (k := 2) (u := .int .i64 (m.slot k).served) rfl
  have a3 := j5.cell (k := 3) (u := .int .i64 (m.slot k).since) rfl
  have a4 := j5.cell (k := 4) (u := .int .i64 cn) rfl
  have a5 := j5.cell (k := 5) (u := .int .i64 ci) rfl
  have d0 := j6.cell (k := 0) (u := .int .i64 0) rfl
  have d1 := j6.cell (k := 1) (u := .bool false) rfl
  have d2 := j6.cell (k := 2) (u := .int .i64 0) rfl
  have d3 := j6.cell (k := 3) (u := .int .i64 0) rfl
  have d4 := j6.cell (k := 4) (u := .int .i64 0) rfl
  have d5 := j6.cell (k := 5) (u := .int .i64 0) rfl
  have fz := j6.frozen
  go_wp2
  refine bodyPost_ret (v := .tuple #[.agg #[.int .i64 (m.slot k).st, .bool (m.slot k).old, .int .i64 (m.slot k).served, .int .i64 (m.slot k).since, .int .i64 cn, .int .i64 ci], .int .i64 0]) (by simp [results, Tryz.results38, go_sem, d0, d1, d2, d3, d4, d5]) rfl ⟨rfl, ?_⟩
  repeat (first | refine Below.setCell ?_ (by simp) _ | exact hb6)

set_option maxRecDepth 100000 in
set_option maxHeartbeats 2000000 in
theorem rSlot_dead (h : RMem o q w b m lv kv qv) (hwf : m.wf) (n : Int) (hlv : isS n = false ∨ m.live n.toNat = false) :
    Calls Tryz.prog 38 #[.pointer (some ⟨b, 0, none⟩), .int .i64 n] w fun r w' => r = .returned (.tuple #[m.slotV n, .int .i64 (slotE n)]) ∧ Below w.heap.size w w' := by
  rcases isS_cases n with h0 | ⟨h0, k, hk, rfl⟩
  · simp only [RM.slotV, slotE, h0, cond_false]
    go_enter Tryz.func38, Tryz.ntmps38
    go_wp2_with fail
    refine (rIsSlot_any _ _).mono ?_
    rintro e w1 ⟨rfl, rfl⟩
    rw [h0]
    go_wp2
    exact bodyPost_ret (v := .tuple #[slotNil, .int .i64 5]) (by simp [results, Tryz.results38, go_sem, slotNil]) rfl ⟨rfl, (Below.refl _ _).alloc (Nat.le_refl _) _⟩
  · simp only [RM.slotV, slotE, h0, cond_true, Int.toNat_natCast]
    have hA := fun ob => (h.alloc ob).slotc hk
    have c0 := fun ob => (hA ob).1
    have c1 := fun ob => (hA ob).2.1
    have c2 := fun ob => (hA ob).2.2.1
    have c3 := fun ob => (hA ob).2.2.2.1
    have c4 := fun ob => (hA ob).2.2.2.2
    clear hA
    cases hlive : m.live k
    · simp only [RM.connOf, RM.idOf, hlive, cond_false]
      have hc : Hid (∀ w', RMem o q w' b m lv kv qv → Calls Tryz.prog 59 #[.pointer (some ⟨b, 0, none⟩), .int .i64 k] w' fun r w'' => r = .returned (.bool false) ∧ Below w'.heap.size w' w'') := fun w' h' => hlive ▸ live_any h' hwf k hk
      go_enter Tryz.func38, Tryz.ntmps38
      go_wp2_with fail
      refine (rIsSlot_any _ _).mono ?_
      rintro e w1 ⟨rfl, rfl⟩
      rw [h0]
      go_wp2_with fail
      refine (hc.out _ (((h.alloc _).alloc _).alloc _)).mono ?_
      rintro e w2 ⟨rfl, hb⟩
      obtain ⟨k0, k1, k2, kb⟩ := three_blks w [.int .i64 0, .bool false, .int .i64 0, .int .i64 0, .int .i64 0, .int .i64 0] [.int .i64 (m.slot k).st, .int .i64 (m.slot k).served, .int .i64 (m.slot k).since, .bool (m.slot k).old, .int .i64 (m.slot k).key] [.int .i64 (m.slot k).st, .bool (m.slot k).old, .int .i64 (m.slot k).served, .int .i64 (m.slot k).since, .int .i64 (-1), .int .i64 0] 59 71 59
      have j0 := k0.below hb
      have j2 := k2.below hb
      have hbb : Below w.heap.size w w2 := kb.trans (hb.mono (by simp; omega))
      clear k0 k1 k2 kb hb c0 c1 c2 c3 c4 hc
      have a0 := j2.cell (k := 0) rfl
      have a1 := j2.cell (k := 1) rfl
      have a2 := j2.cell (k := 2) rfl
      have a3 := j2.cell (k := 3) rfl
      have a4 := j2.cell (k := 4) rfl
      have a5 := j2.cell (k := 5) rfl
      have d0 := j0.cell (k := 0) rfl
      have d1 := j0.cell (k := 1) rfl
      have d2 := j0.cell (k := 2) rfl
      have d3 := j0.cell (k := 3) rfl
      have d4 := j0.cell (k := 4) rfl
      have d5 := j0.cell (k := 5) rfl
      have fz := j0.frozen
      go_wp2
      refine bodyPost_ret (v := .tuple #[.agg #[.int .i64 (m.slot k).st, .bool (m.slot k).old, .int .i64 (m.slot k).served, .int .i64 (m.slot k).since, .int .i64 (-1), .int .i64 0], .int .i64 0]) (by simp [results, Tryz.results38, go_sem, d0, d1, d2, d3, d4, d5]) rfl ⟨rfl, ?_⟩
      repeat (first | refine Below.setCell ?_ (by simp) _ | exact hbb)
    · rcases hlv with e | e
      · rw [h0] at e; cases e
      · simp only [Int.toNat_natCast] at e; rw [hlive] at e; cases e

/-- Slot, whole. -/
theorem rSlot_all (h : RMem o q w b m lv kv qv) (hwf : m.wf) (n : Int) :
    Calls Tryz.prog 38 #[.pointer (some ⟨b, 0, none⟩), .int .i64 n] w fun r w' => r = .returned (.tuple #[m.slotV n, .int .i64 (slotE n)]) ∧ Below w.heap.size w w' := by
  by_cases hd : isS n = true ∧ m.live n.toNat = true
  · obtain ⟨h0, hl⟩ := hd
    rcases isS_cases n with e | ⟨-, k, hk, rfl⟩
    · rw [h0] at e; cases e
    · simp only [Int.toNat_natCast] at hl
      have := rSlot_live h hwf k hk hl
      simpa [RM.slotV, slotE, h0, RM.connOf, RM.idOf, hl] using this
  · exact rSlot_dead h hwf n (by
      cases h0 : isS n
      · exact .inl rfl
      · right
        cases hl : m.live n.toNat
        · rfl
        · exact absurd ⟨h0, hl⟩ hd)
end
end Go.Proofs.YtlafkpaljibonaaGreat

namespace Go.Proofs.YtlafkpaljibonaaGreat
open Go.RowKit

section
variable {p : Nat} {o o' : Nat → Tag} {w w' : World} {gb fb wb : Nat} {ls ts : List Value} {lv tv : Value} {q : Nat} {m : PM} {sv : Nat → Value} {rv : Value} {M : RM} {nv : Nat → Value} {kv qv : Value}

set_option maxRecDepth 100000 in
set_option maxHeartbeats 1000000 in
theorem gslot_all (h : Trio p o w gb fb wb ls ts lv tv m sv rv M nv kv qv) (hwf : M.wf) (n : Int) (h1 : M.slotV n = m.slotV n) (h2 : M.jobV n = m.jobV n) (h3 : M.stE n 3 = m.jobE n)
    (hag : ∃ st old served since conn id, m.slotV n = .agg #[.int .i64 st, .bool old, .int .i64 served, .int .i64 since, .int .i64 conn, .int .i64 id]) :
    Calls Tryz.prog 18 #[.pointer (some ⟨gb, 0, none⟩), .int .i64 n] w fun r w' => r = .returned (.bool true) ∧ Below w.heap.size w w' := by
  obtain ⟨st, old, served, since, conn, id, hV⟩ := hag
  have k1 : Hid (∀ w', FMem o (p + 1) w' fb m sv rv → Calls Tryz.prog 37 #[.pointer (some ⟨fb, 0, none⟩), .int .i64 n] w' fun r w'' => r = .returned (.tuple #[m.slotV n, .int .i64 (slotE n)]) ∧ Below w'.heap.size w' w'') := fun w' h' => slot_any h' n
  have k2 : Hid (∀ w', RMem o (p + 2) w' wb M nv kv qv → Calls Tryz.prog 38 #[.pointer (some ⟨wb, 0, none⟩), .int .i64 n] w' fun r w'' => r = .returned (.tuple #[m.slotV n, .int .i64 (slotE n)]) ∧ Below w'.heap.size w' w'') := fun w' h' => h1 ▸ rSlot_all h' hwf n
  have k3 : Hid (∀ w', FMem o (p + 1) w' fb m sv rv → Calls Tryz.prog 39 #[.pointer (some ⟨fb, 0, none⟩), .int .i64 n] w' fun r w'' => r = .returned (.tuple #[.string (m.jobV n), .int .i64 (m.jobE n)]) ∧ w'' = w') := fun w' h' => job_any h' n
  have k4 : Hid (∀ w', RMem o (p + 2) w' wb M nv kv qv → Calls Tryz.prog 40 #[.pointer (some ⟨wb, 0, none⟩), .int .i64 n] w' fun r w'' => r = .returned (.tuple #[.string (m.jobV n), .int .i64 (m.jobE n)]) ∧ Below w'.heap.size w' w'') := fun w' h' => by have := rJob_any h' hwf n; rw [h2, h3] at this; exact this
  clear h1 h2 h3
  rw [hV] at k1 k2
  clear hV
  generalize m.jobV n = J at *
  generalize m.jobE n = E at *
  generalize slotE n = SE at *
  have c0 := h.g.fc
  have c1 := h.g.wc
  go_enter Tryz.func18, Tryz.ntmps18
  go_wp2_with fail
  refine (k1.out _ h.f).mono ?_
  rintro e w1 ⟨rfl, hb1⟩
  have h1 := h.below hb1
  clear c0 c1
  have c1 := fun ob => (h1.below ((Below.refl _ _).alloc (Nat.le_refl _) ob)).g.wc
  go_wp2_with fail
  have hA := Blk.made w1 59 [.int .i64 st, .bool old, .int .i64 served, .int .i64 since, .int .i64 conn, .int .i64 id]
  have hbA : Below w1.heap.size w1 (w1.alloc (.cells #[.int .i64 st, .bool old, .int .i64 served, .int .i64 since, .int .i64 conn, .int .i64 id] 59)) := (Below.refl _ _).alloc (Nat.le_refl _) _
  have h2 := h1.below hbA
  refine (k2.out _ h2.r).mono ?_
  rintro e w2 ⟨rfl, hb2⟩
  have hA2 := hA.below hb2
  have h3 := h2.below hb2
  have hbw : Below w.heap.size w w2 := hb1.trans ((hbA.trans (hb2.mono (by simp))).mono hb1.size)
  clear c1 hA hbA hb1 hb2 h1 h2
  have a0 := fun ob => (hA2.below ((Below.refl _ _).alloc (Nat.le_refl _) ob)).cell (k := 0) (u := .int .i64 st) rfl
  have a1 := fun ob => (hA2.below ((Below.refl _ _).alloc (Nat.le_refl _) ob)).cell (k := 1) (u := .bool old) rfl
  have a2 := fun ob => (hA2.below ((Below.refl _ _).alloc (Nat.le_refl _) ob)).cell (k := 2) (u := .int .i64 served) rfl
  have a3 := fun ob => (hA2.below ((Below.refl _ _).alloc (Nat.le_refl _) ob)).cell (k := 3) (u := .int .i64 since) rfl
  have a4 := fun ob => (hA2.below ((Below.refl _ _).alloc (Nat.le_refl _) ob)).cell (k := 4) (u := .int .i64 conn) rfl
  have a5 := fun ob => (hA2.below ((Below.refl _ _).alloc (Nat.le_refl _) ob)).cell (k := 5) (u := .int .i64 id) rfl
  have c0 := fun ob => (h3.below ((Below.refl _ _).alloc (Nat.le_refl _) ob)).g.fc
  have c1 := fun ob => (h3.below ((Below.refl _ _).alloc (Nat.le_refl _) ob)).g.wc
  clear hA2
  go_wp2_with fail
  refine (num_any _ _).mono ?_
  rintro e w3 ⟨rfl, rfl⟩
  go_wp2_with fail
  have h4 := h3.below (w' := w2.alloc (.cells #[.int .i64 st, .bool old, .int .i64 served, .int .i64 since, .int .i64 conn, .int .i64 id] 59)) ((Below.refl _ _).alloc (Nat.le_refl _) _)
  refine (k3.out _ h4.f).mono ?_
  rintro e w4 ⟨rfl, rfl⟩
  go_wp2_with fail
  refine (k4.out _ h4.r).mono ?_
  rintro e w5 ⟨rfl, hb5⟩
  clear a0 a1 a2 a3 a4 a5 c0 c1
  go_wp2_with fail
  refine (num_any _ _).mono ?_
  rintro e w6 ⟨rfl, rfl⟩
  go_wp2
  go_ret
  refine ⟨by simp, ?_⟩
  exact hbw.trans ((((Below.refl w2.heap.size w2).alloc (Nat.le_refl _) _).trans (hb5.mono (by simp))).mono hbw.size)


set_option maxRecDepth 100000 in
set_option maxHeartbeats 2000000 in
theorem looks_all (h : Trio p o w gb fb wb ls ts lv tv m sv rv M nv kv qv) (hwf : M.wf) (hS : Same m M)
    (hs : ∀ k, k < 4 → (M.line k).sent.length ≤ 1000000000000) (h1 : m.req.length ≤ 100000000000) (h2 : M.queue.length ≤ 100000000000) (h3 : ls.length ≤ 10000000000) :
    Calls Tryz.prog 11 #[.pointer (some ⟨gb, 0, none⟩)] w fun r w' => r = .returned (.bool true) ∧ ∃ o' ls' ts' lv' tv', Trio p o' w' gb fb wb ls' ts' lv' tv' m sv rv M nv kv qv ∧ Fr (p + 3) o w o' w' ∧ ls'.length = ls.length + 1 := by
  go_enter Tryz.func11, Tryz.ntmps11
  go_wp2
  go_loopw [3, 4] (fun s i w' => ∃ j : Nat, j ≤ 6 ∧ s = .bool true ∧ i = .int .i64 ((j : Int) - 1) ∧ Below w.heap.size w w') (fun _ i _ => 6 - (intOf i + 1).toNat)
  case atStart => exact ⟨0, by omega, rfl, by simp, Below.refl _ _⟩
  case round =>
    obtain ⟨j, hj, rfl, rfl, hb⟩ := hrel
    by_cases hlt : j < 6
    · go_wp2_with fail
      refine (line_any (h.below hb) _ (hS.op _) (hS.sent _) hs).mono ?_
      rintro e w1 ⟨rfl, hb1⟩
      go_wp2
      exact ⟨⟨j + 1, by omega, rfl, by go_num, hb.trans (hb1.mono hb.size)⟩, by simp [intOf]; omega⟩
    · have : j = 6 := by omega
      subst this
      clear hlt hj
      rw [show (((6 : Nat) : Int) - 1) = 5 from rfl]
      go_wp2
      go_loopw [3, 5] (fun s i w' => ∃ j : Nat, j ≤ 8 ∧ s = .bool true ∧ i = .int .i64 ((j : Int) - 1) ∧ Below w.heap.size w w') (fun _ i _ => 8 - (intOf i + 1).toNat)
      case atStart => exact ⟨0, by omega, rfl, by simp, hb⟩
      case round =>
        clear hb
        obtain ⟨j, hj, rfl, rfl, hb⟩ := hrel
        by_cases hlt : j < 8
        · go_wp2_with fail
          refine (gslot_all (h.below hb) hwf _ (hS.slot _) (hS.job _) (hS.jobE _) (slotV_agg m _)).mono ?_
          rintro e w1 ⟨rfl, hb1⟩
          go_wp2
          exact ⟨⟨j + 1, by omega, rfl, by go_num, hb.trans (hb1.mono hb.size)⟩, by simp [intOf]; omega⟩
        · have : j = 8 := by omega
          subst this
          clear hlt hj
          rw [show (((8 : Nat) : Int) - 1) = 7 from rfl]
          have ht := h.below hb
          have hc := h.f.clean
          go_wp2_with fail
          refine (gbacklog_any ht hwf hS.waits h1 h2 (by omega)).mono ?_
          rintro e w2 ⟨rfl, o', ls', ts', lv', tv', t2, fr2, hl2⟩
          have c0 := t2.g.fc
          have c1 := t2.g.wc
          have c2 := t2.g.lc
          have c3 := t2.g.tc
          clear ht
          go_wp2_with fail
          refine (time_any t2.f).mono ?_
          rintro e w3 ⟨rfl, rfl⟩
          go_wp2_with fail
          refine (rTime_any t2.r).mono ?_
          rintro e w4 ⟨rfl, rfl⟩
          go_wp2_with fail
          refine (marked_any 1 (.inl rfl) t2.g.lists (by omega) (fun k hk => by obtain ⟨n, hn⟩ := t2.g.ml k hk; exact ⟨n, by simpa using hn.1⟩)).mono ?_
          rintro e w5 ⟨rfl, hb5⟩
          have t5 := t2.below hb5
          clear c0 c1 c2 c3
          have c3 := t5.g.tc
          have hlt3 := t5.g.len
          have hlt4 : ts'.length ≤ 1000000000000 := by omega
          clear hlt3
          go_wp2_with fail
          refine (marked_any 3 (.inr rfl) t5.g.tails hlt4 (fun k hk => by obtain ⟨n, hn⟩ := t5.g.mt k hk; exact ⟨n, hn.1⟩)).mono ?_
          rintro e w6 ⟨rfl, hb6⟩
          have t6 := t5.below hb6
          have htm := hS.time
          clear c3
          go_wp2
          go_ret
          refine ⟨by simp, o', ls', ts', lv', tv', t6, ?_, hl2⟩
          exact (((Fr.of_below hc hb).trans fr2).below hb5).below hb6
end
end Go.Proofs.YtlafkpaljibonaaGreat
