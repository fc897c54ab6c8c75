import Derived.Test.YtlafkpaljibonaaGreatL2
namespace Go.Proofs.YtlafkpaljibonaaGreat
open Go.RowKit

section
variable {p : Nat} {o : Nat → Tag} {w : World} {gb fb wb : Nat} {ls ts : List Value} {lv tv : Value} {m : PM} {sv : Nat → Value} {rv : Value} {M : RM} {nv : Nat → Value} {kv qv : Value}

theorem Trio.push (h : Trio p o w gb fb wb ls ts lv tv m sv rv M nv kv qv) {w7 w8 w10 : World} (hb7 : Below w.heap.size w w7) {a x1 x2 x3 : Value} {na n1 n2 n3 : Nat} {t : Int} (ht : t = -1 - (ls.length : Int))
    (oa : ownM t w7 w.heap.size a na) (o1 : ownM t w7 w.heap.size x1 n1) (o2 : ownM t w7 w.heap.size x2 n2) (o3 : ownM t w7 w.heap.size x3 n3) {X Y : Obj}
    {G1 c1 : Nat} (own8 : w8.ownsRow 0 86 1 (.slice (some ⟨G1, 0, none⟩) (ls.length + 1) c1) (ls.length + 1) (ls ++ [a])) (hg8 : (w7.alloc X).grownBy w8 lv.ownBlock) (hat8 : lv.ownBlock = some G1 ∨ G1 = w7.heap.size + 1) (hlt8 : G1 < w8.heap.size)
    {G2 c2 : Nat} (own10 : w10.ownsRow 0 86 1 (.slice (some ⟨G2, 0, none⟩) (ts.length + 3) c2) (ts.length + 3) (ts ++ [x1, x2, x3])) (hg10 : ((w8.setCell ⟨gb, 2, none⟩ (.slice (some ⟨G1, 0, none⟩) (ls.length + 1) c1)).alloc Y).grownBy w10 tv.ownBlock) (hat10 : tv.ownBlock = some G2 ∨ G2 = w8.heap.size + 1) (hlt10 : G2 < w10.heap.size) :
    ∃ o', Trio p o' (w10.setCell ⟨gb, 3, none⟩ (.slice (some ⟨G2, 0, none⟩) (ts.length + 3) c2)) gb fb wb (ls ++ [a]) (ts ++ [x1, x2, x3]) (.slice (some ⟨G1, 0, none⟩) (ls.length + 1) c1) (.slice (some ⟨G2, 0, none⟩) (ts.length + 3) c2) m sv rv M nv kv qv ∧
      Fr (p + 3) o w o' (w10.setCell ⟨gb, 3, none⟩ (.slice (some ⟨G2, 0, none⟩) (ts.length + 3) c2)) := by
  have hgb := h.g.blk.lt
  have hs7 := hb7.size
  have hs8 : w7.heap.size + 1 ≤ w8.heap.size := by have := hg8.size; simpa using this
  have hs10 : w8.heap.size + 1 ≤ w10.heap.size := by have := hg10.size; simpa [World.setCell] using this
  have hlv := h.g.lists.1.lt
  have htv := h.g.tails.1.lt
  have tlv := h.g.lists.2
  have ttv := h.g.tails.2
  -- whatever is not written is as it was in w7
  have hsame : ∀ x, x < w7.heap.size → x ≠ gb → some x ≠ lv.ownBlock → some x ≠ tv.ownBlock → (w10.setCell ⟨gb, 3, none⟩ (.slice (some ⟨G2, 0, none⟩) (ts.length + 3) c2)).heap[x]? = w7.heap[x]? := by
    intro x hx h1 h2 h3
    rw [Below.heap_setCell _ _ _ x h1, hg10.block x (by simp [World.setCell]; omega) h3, Below.heap_alloc _ _ x (by simp [World.setCell]; omega), Below.heap_setCell _ _ _ x h1, hg8.block x (by simp; omega) h2, Below.heap_alloc _ _ x hx]
  have hfresh : ∀ x, w.heap.size ≤ x → x < w7.heap.size → (w10.setCell ⟨gb, 3, none⟩ (.slice (some ⟨G2, 0, none⟩) (ts.length + 3) c2)).heap[x]? = w7.heap[x]? := by
    intro x h1 h2
    refine hsame x h2 (by omega) ?_ ?_
    · intro e; have := (hlv x e.symm).2; omega
    · intro e; have := (htv x e.symm).2; omega
  have hold : ∀ x, x < w.heap.size → x ≠ gb → some x ≠ lv.ownBlock → some x ≠ tv.ownBlock → (w10.setCell ⟨gb, 3, none⟩ (.slice (some ⟨G2, 0, none⟩) (ts.length + 3) c2)).heap[x]? = w.heap[x]? := by
    intro x hx h1 h2 h3
    rw [hsame x (by omega) h1 h2 h3]; exact hb7.block x hx
  have hneq : ∀ x, x < w.heap.size → (o x).1 ≠ p + 3 → x ≠ gb ∧ some x ≠ lv.ownBlock ∧ some x ≠ tv.ownBlock := by
    intro x hx hq
    refine ⟨?_, ?_, ?_⟩
    · rintro rfl; rw [h.g.tag] at hq; exact hq rfl
    · intro e; rw [tlv x e.symm] at hq; exact hq rfl
    · intro e; rw [ttv x e.symm] at hq; exact hq rfl
  have hneq9 : ∀ x, x < w.heap.size → o x = (p + 3, 9) → x ≠ gb ∧ some x ≠ lv.ownBlock ∧ some x ≠ tv.ownBlock := by
    intro x hx hq
    refine ⟨?_, ?_, ?_⟩
    · rintro rfl; rw [h.g.tag] at hq; simp at hq
    · intro e; rw [tlv x e.symm] at hq; simp at hq
    · intro e; rw [ttv x e.symm] at hq; simp at hq
  let o' : Nat → Tag := fun g => if g < w.heap.size then o g else if g = G1 then (p + 3, 2) else if g = G2 then (p + 3, 3) else if g < w10.heap.size then (p + 3, 9) else (0, 0)
  have oold : ∀ g, g < w.heap.size → o' g = o g := fun g hg => by simp only [o', if_pos hg]
  have hszE : (w10.setCell ⟨gb, 3, none⟩ (.slice (some ⟨G2, 0, none⟩) (ts.length + 3) c2)).heap.size = w10.heap.size := by simp [World.setCell]
  have hclean : Clean o' (w10.setCell ⟨gb, 3, none⟩ (.slice (some ⟨G2, 0, none⟩) (ts.length + 3) c2)) := by
    intro g hg
    rw [hszE] at hg
    have e1 : ¬ g < w.heap.size := by omega
    have e2 : g ≠ G1 := by omega
    have e3 : g ≠ G2 := by omega
    have e4 : ¬ g < w10.heap.size := by omega
    simp only [o', if_neg e1, if_neg e2, if_neg e3, if_neg e4]
  have hG1 : G1 < w.heap.size ∧ lv.ownBlock = some G1 ∨ w7.heap.size < G1 := by
    rcases hat8 with e | e
    · exact .inl ⟨(hlv _ e).2, e⟩
    · right; omega
  have hG2 : G2 < w.heap.size ∧ tv.ownBlock = some G2 ∨ w8.heap.size < G2 := by
    rcases hat10 with e | e
    · exact .inl ⟨(htv _ e).2, e⟩
    · right; omega
  have hG1b : G1 ≠ gb := by
    rcases hG1 with ⟨h1, h2⟩ | h1
    · rintro rfl; have := tlv _ h2; rw [h.g.tag] at this; simp at this
    · omega
  have hG2b : G2 ≠ gb := by
    rcases hG2 with ⟨h1, h2⟩ | h1
    · rintro rfl; have := ttv _ h2; rw [h.g.tag] at this; simp at this
    · omega
  have hG1t : some G1 ≠ tv.ownBlock := by
    intro e
    have e2 := ttv _ e.symm
    rcases hG1 with ⟨h1, h2⟩ | h1
    · have := tlv _ h2; rw [this] at e2; simp at e2
    · have := (htv _ e.symm).2; omega
  have hG12 : G1 ≠ G2 := by
    rcases hG1 with ⟨h1, h2⟩ | h1
    · rcases hG2 with ⟨h3, h4⟩ | h3
      · intro e; exact hG1t (by rw [e]; exact h4.symm)
      · omega
    · rcases hG2 with ⟨h3, h4⟩ | h3
      · omega
      · omega
  have oG1 : o' G1 = (p + 3, 2) := by
    rcases hG1 with ⟨h1, h2⟩ | h1
    · rw [oold _ h1]; exact tlv _ h2
    · have e1 : ¬ G1 < w.heap.size := by omega
      simp only [o', if_neg e1, if_true]
  have oG2 : o' G2 = (p + 3, 3) := by
    rcases hG2 with ⟨h1, h2⟩ | h1
    · rw [oold _ h1]; exact ttv _ h2
    · have e1 : ¬ G2 < w.heap.size := by omega
      simp only [o', if_neg e1, if_neg (Ne.symm hG12), if_true]
  have hfr : Fr (p + 3) o w o' (w10.setCell ⟨gb, 3, none⟩ (.slice (some ⟨G2, 0, none⟩) (ts.length + 3) c2)) := by
    refine ⟨?_, ?_, ?_, by rw [hszE]; omega, hclean, oold, fun x hx hq => ?_⟩
    · exact (hg10.os.trans (hg8.os.trans hb7.os))
    · exact (hg10.tape.trans (hg8.tape.trans hb7.tape))
    · exact (hg10.output.trans (hg8.output.trans hb7.output))
    · obtain ⟨h1, h2, h3⟩ := hneq x hx hq
      exact hold x hx h1 h2 h3
  have hrow9 : ∀ {v : Value} {n : Nat}, ownM t w7 w.heap.size v n → Row o' (w10.setCell ⟨gb, 3, none⟩ (.slice (some ⟨G2, 0, none⟩) (ts.length + 3) c2)) (p + 3, 9) 89 2 v n (ms t n) := by
    intro v n hv
    have hlt := World.ownsRow.lt hv
    refine ⟨own_keepAt hv (fun g hg => hfresh g (hlt g hg).1 (hlt g hg).2) (Nat.zero_le _), fun g hg => ?_⟩
    obtain ⟨h1, h2⟩ := hlt g hg
    have e1 : ¬ g < w.heap.size := by omega
    have e2 : g ≠ G1 := by rcases hG1 with ⟨h3, -⟩ | h3 <;> omega
    have e3 : g ≠ G2 := by rcases hG2 with ⟨h3, -⟩ | h3 <;> omega
    have e4 : g < w10.heap.size := by omega
    simp only [o', if_neg e1, if_neg e2, if_neg e3, if_pos e4]
  refine ⟨o', ⟨⟨?_, ?_, ?_, ?_, ?_, ?_, ?_⟩, h.f.fr hfr (by omega), h.r.fr hfr (by omega)⟩, hfr⟩
  · -- the game's own cells
    have b7 := h.g.blk.below (hb7.mono (Nat.le_refl _))
    have ne1 : some gb ≠ lv.ownBlock := by intro e; have := tlv _ e.symm; rw [h.g.tag] at this; simp at this
    have ne2 : some gb ≠ tv.ownBlock := by intro e; have := ttv _ e.symm; rw [h.g.tag] at this; simp at this
    have b8 : Blk w8 gb _ _ := b7.keep ((hg8.block gb (by simp; omega) ne1).trans (Below.heap_alloc _ _ gb (by omega)))
    have b9 := b8.set 2 (.slice (some ⟨G1, 0, none⟩) (ls.length + 1) c1)
    have b10 : Blk w10 gb _ _ := b9.keep ((hg10.block gb (by simp [World.setCell]; omega) ne2).trans (Below.heap_alloc _ _ gb (by simp [World.setCell]; omega)))
    exact b10.set 3 (.slice (some ⟨G2, 0, none⟩) (ts.length + 3) c2)
  · rw [oold _ hgb]; exact h.g.tag
  · refine ⟨?_, fun g hg => ?_⟩
    · rw [List.length_append]
      refine own_keepAt own8 (fun g hg => ?_) (Nat.le_refl _)
      have : g = G1 := by simpa [Value.ownBlock] using hg.symm
      subst this
      rw [Below.heap_setCell _ _ _ g hG1b, hg10.block g (by simp [World.setCell]; omega) hG1t, Below.heap_alloc _ _ g (by simp [World.setCell]; omega), Below.heap_setCell _ _ _ g hG1b]
    · have : g = G1 := by simpa [Value.ownBlock] using hg.symm
      rw [this]; exact oG1
  · refine ⟨?_, fun g hg => ?_⟩
    · rw [List.length_append]
      refine own_keepAt own10 (fun g hg => ?_) (Nat.le_refl _)
      have : g = G2 := by simpa [Value.ownBlock] using hg.symm
      subst this
      exact Below.heap_setCell _ _ _ g hG2b
    · have : g = G2 := by simpa [Value.ownBlock] using hg.symm
      rw [this]; exact oG2
  · have := h.g.len; simp; omega
  · intro k hk
    by_cases hkl : k < ls.length
    · rw [List.getElem_append_left hkl]
      obtain ⟨n, hn⟩ := h.g.ml k hkl
      exact ⟨n, hn.keep oold fun g hg hq => by obtain ⟨h1, h2, h3⟩ := hneq9 g hg hq; exact hold g hg h1 h2 h3⟩
    · have : k = ls.length := by simp at hk; omega
      subst this
      rw [List.getElem_append_right (Nat.le_refl _)]
      simp only [Nat.sub_self, List.getElem_cons_zero]
      rw [← ht]
      exact ⟨na, hrow9 oa⟩
  · intro k hk
    by_cases hkl : k < ts.length
    · rw [List.getElem_append_left hkl]
      obtain ⟨n, hn⟩ := h.g.mt k hkl
      exact ⟨n, hn.keep oold fun g hg hq => by obtain ⟨h1, h2, h3⟩ := hneq9 g hg hq; exact hold g hg h1 h2 h3⟩
    · have hl := h.g.len
      have hk2 : k < ts.length + 3 := by simpa using hk
      have hd : k / 3 = ls.length := by omega
      rw [List.getElem_append_right (by omega), hd, ← ht]
      have : k - ts.length = 0 ∨ k - ts.length = 1 ∨ k - ts.length = 2 := by omega
      rcases this with e | e | e
      · simp only [e, List.getElem_cons_zero]; exact ⟨n1, hrow9 o1⟩
      · simp only [e, List.getElem_cons_succ, List.getElem_cons_zero]; exact ⟨n2, hrow9 o2⟩
      · simp only [e, List.getElem_cons_succ, List.getElem_cons_zero]; exact ⟨n3, hrow9 o3⟩
end
end Go.Proofs.YtlafkpaljibonaaGreat
