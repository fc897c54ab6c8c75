import Derived.Test.YtmjnengplfoiiaaGreatJ4
import Derived.Deep.RegionWith
import Derived.Laws.StructEq
import Derived.Test.YtmjnengplfoiiaaGreatJ2
namespace Go.Proofs.YtmjnengplfoiiaaGreat
open Go.RowKit

theorem own_keepAt {w w' : World} {base base' : Nat} {e : TypeId} {size n : Nat} {v : Value} {xs : List Value} (h : w.ownsRow base e size v n xs) (hb : ∀ g, v.ownBlock = some g → w'.heap[g]? = w.heap[g]?) (hbb : base' ≤ base) : w'.ownsRow base' e size v n xs := by
  refine own_mono ⟨h.1, ?_⟩ hbb
  rcases h.2 with h2 | ⟨g, cap, cur, rfl, hg, hh, r⟩
  · exact .inl h2
  · exact .inr ⟨g, cap, cur, rfl, hg, by rw [hb g rfl]; exact hh, r⟩

section
variable {o : Nat → Tag} {w : World} {gb fb wb : Nat} {ls ts : List Value} {lv tv : Value} {m : PM} {sv : Nat → Value} {rv : Value} {M : RM} {nv : Nat → Value} {kv qv : Value}

theorem Trio.push (h : Trio o w gb fb wb ls ts lv tv m sv rv M nv kv qv) {w7 w8 w10 : World} (hb7 : Below w.heap.size w w7) {a x1 x2 x3 : Value} {na n1 n2 n3 : Nat} {t : Int} (ht : t = -1 - (ls.length : Int))
    (oa : ownM t w7 w.heap.size a na) (o1 : ownM t w7 w.heap.size x1 n1) (o2 : ownM t w7 w.heap.size x2 n2) (o3 : ownM t w7 w.heap.size x3 n3) {X Y : Obj}
    {G1 c1 : Nat} (own8 : w8.ownsRow 0 85 1 (.slice (some ⟨G1, 0, none⟩) (ls.length + 1) c1) (ls.length + 1) (ls ++ [a])) (hg8 : (w7.alloc X).grownBy w8 lv.ownBlock) (hat8 : lv.ownBlock = some G1 ∨ G1 = w7.heap.size + 1) (hlt8 : G1 < w8.heap.size)
    {G2 c2 : Nat} (own10 : w10.ownsRow 0 85 1 (.slice (some ⟨G2, 0, none⟩) (ts.length + 3) c2) (ts.length + 3) (ts ++ [x1, x2, x3])) (hg10 : ((w8.setCell ⟨gb, 2, none⟩ (.slice (some ⟨G1, 0, none⟩) (ls.length + 1) c1)).alloc Y).grownBy w10 tv.ownBlock) (hat10 : tv.ownBlock = some G2 ∨ G2 = w8.heap.size + 1) (hlt10 : G2 < w10.heap.size) :
    ∃ o', Trio o' (w10.setCell ⟨gb, 3, none⟩ (.slice (some ⟨G2, 0, none⟩) (ts.length + 3) c2)) gb fb wb (ls ++ [a]) (ts ++ [x1, x2, x3]) (.slice (some ⟨G1, 0, none⟩) (ls.length + 1) c1) (.slice (some ⟨G2, 0, none⟩) (ts.length + 3) c2) m sv rv M nv kv qv ∧
      Fr 3 o w o' (w10.setCell ⟨gb, 3, none⟩ (.slice (some ⟨G2, 0, none⟩) (ts.length + 3) c2)) := by
  have hgb := h.g.blk.lt
  have hs7 := hb7.size
  have hs8 : w7.heap.size + 1 ≤ w8.heap.size := by have := hg8.size; simpa using this
  have hs10 : w8.heap.size + 1 ≤ w10.heap.size := by have := hg10.size; simpa [World.setCell] using this
  have hlv := h.g.lists.1.lt
  have htv := h.g.tails.1.lt
  have tlv := h.g.lists.2
  have ttv := h.g.tails.2
  -- whatever is not written is as it was in w7
  have hsame : ∀ x, x < w7.heap.size → x ≠ gb → some x ≠ lv.ownBlock → some x ≠ tv.ownBlock → (w10.setCell ⟨gb, 3, none⟩ (.slice (some ⟨G2, 0, none⟩) (ts.length + 3) c2)).heap[x]? = w7.heap[x]? := by
    intro x hx h1 h2 h3
    rw [Below.heap_setCell _ _ _ x h1, hg10.block x (by simp [World.setCell]; omega) h3, Below.heap_alloc _ _ x (by simp [World.setCell]; omega), Below.heap_setCell _ _ _ x h1, hg8.block x (by simp; omega) h2, Below.heap_alloc _ _ x hx]
  have hfresh : ∀ x, w.heap.size ≤ x → x < w7.heap.size → (w10.setCell ⟨gb, 3, none⟩ (.slice (some ⟨G2, 0, none⟩) (ts.length + 3) c2)).heap[x]? = w7.heap[x]? := by
    intro x h1 h2
    refine hsame x h2 (by omega) ?_ ?_
    · intro e; have := (hlv x e.symm).2; omega
    · intro e; have := (htv x e.symm).2; omega
  have hold : ∀ x, x < w.heap.size → x ≠ gb → some x ≠ lv.ownBlock → some x ≠ tv.ownBlock → (w10.setCell ⟨gb, 3, none⟩ (.slice (some ⟨G2, 0, none⟩) (ts.length + 3) c2)).heap[x]? = w.heap[x]? := by
    intro x hx h1 h2 h3
    rw [hsame x (by omega) h1 h2 h3]; exact hb7.block x hx
  have hneq : ∀ x, x < w.heap.size → (o x).1 ≠ 3 → x ≠ gb ∧ some x ≠ lv.ownBlock ∧ some x ≠ tv.ownBlock := by
    intro x hx hq
    refine ⟨?_, ?_, ?_⟩
    · rintro rfl; rw [h.g.tag] at hq; exact hq rfl
    · intro e; rw [tlv x e.symm] at hq; exact hq rfl
    · intro e; rw [ttv x e.symm] at hq; exact hq rfl
  have hneq9 : ∀ x, x < w.heap.size → o x = (3, 9) → x ≠ gb ∧ some x ≠ lv.ownBlock ∧ some x ≠ tv.ownBlock := by
    intro x hx hq
    refine ⟨?_, ?_, ?_⟩
    · rintro rfl; rw [h.g.tag] at hq; simp at hq
    · intro e; rw [tlv x e.symm] at hq; simp at hq
    · intro e; rw [ttv x e.symm] at hq; simp at hq
  let o' : Nat → Tag := fun g => if g < w.heap.size then o g else if g = G1 then (3, 2) else if g = G2 then (3, 3) else if g < w10.heap.size then (3, 9) else (0, 0)
  have oold : ∀ g, g < w.heap.size → o' g = o g := fun g hg => by simp only [o', if_pos hg]
  have hszE : (w10.setCell ⟨gb, 3, none⟩ (.slice (some ⟨G2, 0, none⟩) (ts.length + 3) c2)).heap.size = w10.heap.size := by simp [World.setCell]
  have hclean : Clean o' (w10.setCell ⟨gb, 3, none⟩ (.slice (some ⟨G2, 0, none⟩) (ts.length + 3) c2)) := by
    intro g hg
    rw [hszE] at hg
    have e1 : ¬ g < w.heap.size := by omega
    have e2 : g ≠ G1 := by omega
    have e3 : g ≠ G2 := by omega
    have e4 : ¬ g < w10.heap.size := by omega
    simp only [o', if_neg e1, if_neg e2, if_neg e3, if_neg e4]
  have hG1 : G1 < w.heap.size ∧ lv.ownBlock = some G1 ∨ w7.heap.size < G1 := by
    rcases hat8 with e | e
    · exact .inl ⟨(hlv _ e).2, e⟩
    · right; omega
  have hG2 : G2 < w.heap.size ∧ tv.ownBlock = some G2 ∨ w8.heap.size < G2 := by
    rcases hat10 with e | e
    · exact .inl ⟨(htv _ e).2, e⟩
    · right; omega
  have hG1b : G1 ≠ gb := by
    rcases hG1 with ⟨h1, h2⟩ | h1
    · rintro rfl; have := tlv _ h2; rw [h.g.tag] at this; simp at this
    · omega
  have hG2b : G2 ≠ gb := by
    rcases hG2 with ⟨h1, h2⟩ | h1
    · rintro rfl; have := ttv _ h2; rw [h.g.tag] at this; simp at this
    · omega
  have hG1t : some G1 ≠ tv.ownBlock := by
    intro e
    have e2 := ttv _ e.symm
    rcases hG1 with ⟨h1, h2⟩ | h1
    · have := tlv _ h2; rw [this] at e2; simp at e2
    · have := (htv _ e.symm).2; omega
  have hG12 : G1 ≠ G2 := by
    rcases hG1 with ⟨h1, h2⟩ | h1
    · rcases hG2 with ⟨h3, h4⟩ | h3
      · intro e; exact hG1t (by rw [e]; exact h4.symm)
      · omega
    · rcases hG2 with ⟨h3, h4⟩ | h3
      · omega
      · omega
  have oG1 : o' G1 = (3, 2) := by
    rcases hG1 with ⟨h1, h2⟩ | h1
    · rw [oold _ h1]; exact tlv _ h2
    · have e1 : ¬ G1 < w.heap.size := by omega
      simp only [o', if_neg e1, if_true]
  have oG2 : o' G2 = (3, 3) := by
    rcases hG2 with ⟨h1, h2⟩ | h1
    · rw [oold _ h1]; exact ttv _ h2
    · have e1 : ¬ G2 < w.heap.size := by omega
      simp only [o', if_neg e1, if_neg (Ne.symm hG12), if_true]
  have hfr : Fr 3 o w o' (w10.setCell ⟨gb, 3, none⟩ (.slice (some ⟨G2, 0, none⟩) (ts.length + 3) c2)) := by
    refine ⟨?_, ?_, ?_, by rw [hszE]; omega, hclean, oold, fun x hx hq => ?_⟩
    · exact (hg10.os.trans (hg8.os.trans hb7.os))
    · exact (hg10.tape.trans (hg8.tape.trans hb7.tape))
    · exact (hg10.output.trans (hg8.output.trans hb7.output))
    · obtain ⟨h1, h2, h3⟩ := hneq x hx hq
      exact hold x hx h1 h2 h3
  have hrow9 : ∀ {v : Value} {n : Nat}, ownM t w7 w.heap.size v n → Row o' (w10.setCell ⟨gb, 3, none⟩ (.slice (some ⟨G2, 0, none⟩) (ts.length + 3) c2)) (3, 9) 88 2 v n (ms t n) := by
    intro v n hv
    have hlt := World.ownsRow.lt hv
    refine ⟨own_keepAt hv (fun g hg => hfresh g (hlt g hg).1 (hlt g hg).2) (Nat.zero_le _), fun g hg => ?_⟩
    obtain ⟨h1, h2⟩ := hlt g hg
    have e1 : ¬ g < w.heap.size := by omega
    have e2 : g ≠ G1 := by rcases hG1 with ⟨h3, -⟩ | h3 <;> omega
    have e3 : g ≠ G2 := by rcases hG2 with ⟨h3, -⟩ | h3 <;> omega
    have e4 : g < w10.heap.size := by omega
    simp only [o', if_neg e1, if_neg e2, if_neg e3, if_pos e4]
  refine ⟨o', ⟨⟨?_, ?_, ?_, ?_, ?_, ?_, ?_⟩, h.f.fr hfr (by omega), h.r.fr hfr (by omega)⟩, hfr⟩
  · -- the game's own cells
    have b7 := h.g.blk.below (hb7.mono (Nat.le_refl _))
    have ne1 : some gb ≠ lv.ownBlock := by intro e; have := tlv _ e.symm; rw [h.g.tag] at this; simp at this
    have ne2 : some gb ≠ tv.ownBlock := by intro e; have := ttv _ e.symm; rw [h.g.tag] at this; simp at this
    have b8 : Blk w8 gb _ _ := b7.keep ((hg8.block gb (by simp; omega) ne1).trans (Below.heap_alloc _ _ gb (by omega)))
    have b9 := b8.set 2 (.slice (some ⟨G1, 0, none⟩) (ls.length + 1) c1)
    have b10 : Blk w10 gb _ _ := b9.keep ((hg10.block gb (by simp [World.setCell]; omega) ne2).trans (Below.heap_alloc _ _ gb (by simp [World.setCell]; omega)))
    exact b10.set 3 (.slice (some ⟨G2, 0, none⟩) (ts.length + 3) c2)
  · rw [oold _ hgb]; exact h.g.tag
  · refine ⟨?_, fun g hg => ?_⟩
    · rw [List.length_append]
      refine own_keepAt own8 (fun g hg => ?_) (Nat.le_refl _)
      have : g = G1 := by simpa [Value.ownBlock] using hg.symm
      subst this
      rw [Below.heap_setCell _ _ _ g hG1b, hg10.block g (by simp [World.setCell]; omega) hG1t, Below.heap_alloc _ _ g (by simp [World.setCell]; omega), Below.heap_setCell _ _ _ g hG1b]
    · have : g = G1 := by simpa [Value.ownBlock] using hg.symm
      rw [this]; exact oG1
  · refine ⟨?_, fun g hg => ?_⟩
    · rw [List.length_append]
      refine own_keepAt own10 (fun g hg => ?_) (Nat.le_refl _)
      have : g = G2 := by simpa [Value.ownBlock] using hg.symm
      subst this
      exact Below.heap_setCell _ _ _ g hG2b
    · have : g = G2 := by simpa [Value.ownBlock] using hg.symm
      rw [this]; exact oG2
  · have := h.g.len; simp; omega
  · intro k hk
    by_cases hkl : k < ls.length
    · rw [List.getElem_append_left hkl]
      obtain ⟨n, hn⟩ := h.g.ml k hkl
      exact ⟨n, hn.keep oold fun g hg hq => by obtain ⟨h1, h2, h3⟩ := hneq9 g hg hq; exact hold g hg h1 h2 h3⟩
    · have : k = ls.length := by simp at hk; omega
      subst this
      rw [List.getElem_append_right (Nat.le_refl _)]
      simp only [Nat.sub_self, List.getElem_cons_zero]
      rw [← ht]
      exact ⟨na, hrow9 oa⟩
  · intro k hk
    by_cases hkl : k < ts.length
    · rw [List.getElem_append_left hkl]
      obtain ⟨n, hn⟩ := h.g.mt k hkl
      exact ⟨n, hn.keep oold fun g hg hq => by obtain ⟨h1, h2, h3⟩ := hneq9 g hg hq; exact hold g hg h1 h2 h3⟩
    · have hl := h.g.len
      have hk2 : k < ts.length + 3 := by simpa using hk
      have hd : k / 3 = ls.length := by omega
      rw [List.getElem_append_right (by omega), hd, ← ht]
      have : k - ts.length = 0 ∨ k - ts.length = 1 ∨ k - ts.length = 2 := by omega
      rcases this with e | e | e
      · simp only [e, List.getElem_cons_zero]; exact ⟨n1, hrow9 o1⟩
      · simp only [e, List.getElem_cons_succ, List.getElem_cons_zero]; exact ⟨n2, hrow9 o2⟩
      · simp only [e, List.getElem_cons_succ, List.getElem_cons_zero]; exact ⟨n3, hrow9 o3⟩
end
end Go.Proofs.YtmjnengplfoiiaaGreat

namespace Go.Proofs.YtmjnengplfoiiaaGreat
open Go.RowKit

def isKey (c i : Int) (r : Req) : Bool := r.conn == c && r.id == i
def withoutL (l : List Req) (c i : Int) : List Req := l.filter fun r => !isKey c i r

theorem infoReq : (Tryz.prog.info? 105).map (fun i => (i.zero, i.size, i.bytes)) = some (some (.agg #[.int .i64 0, .int .i64 0, .int .i64 0, .string ⟨#[]⟩]), 4, 40) := by kernel_rfl

theorem reqCells_append (a b : List Req) : reqCells (a ++ b) = reqCells a ++ reqCells b := by simp [reqCells]
theorem reqCells_one (l : List Req) : ∀ u ∈ reqCells l, u.oneCell' = true := by
  intro u hu
  simp only [reqCells, List.mem_flatMap] at hu
  obtain ⟨r, _, hr⟩ := hu
  simp only [Req.cells, List.mem_cons, List.not_mem_nil, or_false] at hr
  rcases hr with rfl | rfl | rfl | rfl <;> rfl
theorem news_req (W : World) (g : Nat) (hg : W.heap.size = g) (r : Req) (T : TypeId) : ∀ j u, (reqCells [r])[j]? = some u → (W.alloc (.cells #[.int .i64 r.conn, .int .i64 r.id, .int .i64 r.stage, .string r.body] T)).cell? ((⟨g, 0, none⟩ : Addr).add j) = some u := by
  subst hg
  exact World.news_of_block (heap_alloc_new W _)

/-- A list of requests that lies in memory, whosever it is. -/
def ReqsAt (w : World) (v : Value) (l : List Req) : Prop :=
  ∃ ao c, v = .slice ao l.length c ∧ (l.length : Int) ≤ 9223372036854775807 ∧
    ∀ k (hk : k < l.length), ∃ g, ao = some ⟨g, 0, none⟩ ∧ g < w.heap.size ∧
    w.cell? ⟨g, k * 4, none⟩ = some (.int .i64 l[k].conn) ∧ w.cell? ⟨g, k * 4 + 1, none⟩ = some (.int .i64 l[k].id) ∧ w.cell? ⟨g, k * 4 + 2, none⟩ = some (.int .i64 l[k].stage) ∧ w.cell? ⟨g, k * 4 + 3, none⟩ = some (.string l[k].body)

theorem FMem.reqsAt {o : Nat → Tag} {q : Nat} {w : World} {b : Nat} {m : PM} {sv : Nat → Value} {rv : Value} (h : FMem o q w b m sv rv) : ReqsAt w rv m.req := by
  obtain ⟨ao, c, h1, h2, h3⟩ := h.list
  refine ⟨ao, c, h1, h2, fun k hk => ?_⟩
  obtain ⟨g, e, hg, -, -, hc⟩ := h3 k hk
  exact ⟨g, e, hg, hc⟩

set_option maxRecDepth 100000 in
set_option maxHeartbeats 2000000 in
theorem without_any (w : World) (rv : Value) (l : List Req) (h : ReqsAt w rv l) (c i : Int) (hmax : l.length ≤ 1000000000000) :
    Calls Tryz.prog 104 #[rv, .agg #[.int .i64 c, .int .i64 i]] w fun r w' => ∃ v, r = .returned v ∧ w'.ownsRow w.heap.size 105 4 v (withoutL l c i).length (reqCells (withoutL l c i)) ∧ Below w.heap.size w w' := by
  obtain ⟨i0, hi, hz0, hz1, hz2⟩ := info_parts infoReq
  obtain ⟨ao, cap, rfl, hn, hrow⟩ := h
  go_enter Tryz.func104, Tryz.ntmps104
  go_wp2
  have x0 := Blk.made w 88 [.int .i64 c, .int .i64 i]
  go_loopw [5, 10] (fun v j w' => ∃ k : Nat, k ≤ l.length ∧ j = .int .i64 k ∧ w'.ownsRow (w.heap.size + 1) 105 4 v (withoutL (l.take k) c i).length (reqCells (withoutL (l.take k) c i)) ∧ Blk w' w.heap.size 88 [.int .i64 c, .int .i64 i] ∧ Below w.heap.size w w') (fun _ j _ => l.length - (intOf j).toNat)
  case atStart => exact ⟨0, by omega, rfl, World.ownsRow_nil _ _ _ _, x0, (Below.refl _ _).alloc (Nat.le_refl _) _⟩
  case round =>
    clear x0
    obtain ⟨k, hk, rfl, hown, hx, hb⟩ := hrel
    have hbase : w.heap.size < wr.heap.size := hx.lt
    by_cases hlt : k < l.length
    · obtain ⟨g, rfl, hg, c0, c1, c2, c3⟩ := hrow k hlt
      have hst := List.take_succ_eq_append_getElem hlt
      have HS : Hid _ := hst
      have hll : (withoutL (l.take k) c i).length ≤ k := Nat.le_trans (List.length_filter_le _ _) (by rw [List.length_take]; omega)
      clear hst hrow
      rw [← hb.cell (by exact hg)] at c0 c1 c2 c3
      generalize hacc : withoutL (l.take k) c i = acc at *
      have HA : Hid _ := hacc
      clear hacc
      generalize l[k] = r at *
      have y0 := fun ob => (hx.below ((Below.refl _ _).alloc (Nat.le_refl _) ob)).cell (k := 0) (u := .int .i64 c) rfl
      have y1 := fun ob => (hx.below ((Below.refl _ _).alloc (Nat.le_refl _) ob)).cell (k := 1) (u := .int .i64 i) rfl
      have hfa : withoutL (l.take k ++ [r]) c i = withoutL (l.take k) c i ++ withoutL [r] c i := by simp [withoutL]
      have HF : Hid _ := hfa
      clear hfa
      by_cases h1 : r.conn = c ∧ r.id = i
      · obtain ⟨rfl, rfl⟩ := h1
        go_wp2
        refine ⟨⟨k + 1, by omega, by go_num, ?_, hx.below ((Below.refl _ _).alloc (Nat.le_refl _) _), hb.alloc (by omega) _⟩, by simp [intOf]; omega⟩
        rw [HS.out, HF.out, HA.out, show withoutL [r] r.conn r.id = [] from by simp [withoutL, isKey], List.append_nil]
        exact hown.alloc _
      · have h2 : ¬ (r.conn = c) ∨ ¬ (r.id = i) := by omega
        have h3 : isKey c i r = false := by simp only [isKey, Bool.and_eq_false_iff, beq_eq_false_iff_ne]; exact h2
        have H3 : Hid _ := h3
        clear h3
        by_cases hcc : r.conn = c
        · have hii : ¬ r.id = i := by omega
          clear h2 h1
          subst hcc
          go_wp2_with (at_builtin; refine wpList_append_own _ rfl _ _ 56 rfl (w.heap.size + 1) 105 i0 (.agg #[.int .i64 0, .int .i64 0, .int .i64 0, .string ⟨#[]⟩]) 4 40 Tryz.underlying56 hi hz0 hz1 hz2 rfl (by omega) u5 acc.length (reqCells acc) rfl ?hown ⟨wr.heap.size + 1, 0, none⟩ 1 1 (reqCells [r]) rfl rfl ?hnews ?h1 ?h63 ?hbytes ?hbase ?_)
          case hown => exact (hown.alloc _).alloc _
          case hnews => exact news_req _ _ (by simp) _ _
          case h1 => exact reqCells_one _
          case h63 => unfold maxLen; omega
          case hbytes => omega
          case hbase => simp; omega
          intro v' w2 hown2 hgrow _
          go_wp2
          have hne : some w.heap.size ≠ u5.ownBlock := by intro e; have := (hown.lt _ e.symm).1; omega
          refine ⟨⟨k + 1, by omega, by go_num, ?_, ?_, ?_⟩, by simp [intOf]; omega⟩
          · rw [HS.out, HF.out, HA.out, show withoutL [r] r.conn i = [r] from by simp [withoutL, H3.out], reqCells_append]
            simpa using hown2
          · exact hx.keep ((hgrow.block _ (by simp; omega) hne).trans ((Below.heap_alloc _ _ _ (by simp; omega)).trans (Below.heap_alloc _ _ _ (by omega))))
          · refine ((hb.alloc (by omega) _).alloc (by simp; omega) _).grown hgrow (by simp; omega) ?_
            intro y hy
            have := (hown.lt y hy).1
            omega
        · clear h2 h1
          go_wp2_with (at_builtin; refine wpList_append_own _ rfl _ _ 56 rfl (w.heap.size + 1) 105 i0 (.agg #[.int .i64 0, .int .i64 0, .int .i64 0, .string ⟨#[]⟩]) 4 40 Tryz.underlying56 hi hz0 hz1 hz2 rfl (by omega) u5 acc.length (reqCells acc) rfl ?hown ⟨wr.heap.size + 1, 0, none⟩ 1 1 (reqCells [r]) rfl rfl ?hnews ?h1 ?h63 ?hbytes ?hbase ?_)
          case hown => exact (hown.alloc _).alloc _
          case hnews => exact news_req _ _ (by simp) _ _
          case h1 => exact reqCells_one _
          case h63 => unfold maxLen; omega
          case hbytes => omega
          case hbase => simp; omega
          intro v' w2 hown2 hgrow _
          go_wp2
          have hne : some w.heap.size ≠ u5.ownBlock := by intro e; have := (hown.lt _ e.symm).1; omega
          refine ⟨⟨k + 1, by omega, by go_num, ?_, ?_, ?_⟩, by simp [intOf]; omega⟩
          · rw [HS.out, HF.out, HA.out, show withoutL [r] c i = [r] from by simp [withoutL, H3.out], reqCells_append]
            simpa using hown2
          · exact hx.keep ((hgrow.block _ (by simp; omega) hne).trans ((Below.heap_alloc _ _ _ (by simp; omega)).trans (Below.heap_alloc _ _ _ (by omega))))
          · refine ((hb.alloc (by omega) _).alloc (by simp; omega) _).grown hgrow (by simp; omega) ?_
            intro y hy
            have := (hown.lt y hy).1
            omega
    · have : k = l.length := by omega
      subst this
      go_wp2
      go_ret
      rw [List.take_length] at hown
      exact ⟨_, rfl, own_keepAt hown (fun _ _ => rfl) (by omega), hb⟩

section
variable {o : Nat → Tag} {q : Nat} {w : World} {b : Nat} {m : PM} {sv : Nat → Value} {rv : Value}

/-- The list of requests is another from now on: one that was just made. -/
theorem FMem.newReq {w1 : World} (h : FMem o q w b m sv rv) (hb : Below w.heap.size w w1) (v : Value) (l : List Req) (own : w1.ownsRow w.heap.size 105 4 v l.length (reqCells l)) :
    ∃ o', FMem o' q (w1.setCell ⟨b, 20, none⟩ v) b { m with req := l } sv v ∧ Fr q o w o' (w1.setCell ⟨b, 20, none⟩ v) := by
  have hbl := h.blk.lt
  have hlt := own.lt
  let o' : Nat → Tag := fun g => if v.ownBlock = some g then (q, 6) else o g
  have oold : ∀ g, g < w.heap.size → o' g = o g := by
    intro g hg
    have : ¬ v.ownBlock = some g := by intro e; have := (hlt g e).1; omega
    simp only [o', if_neg this]
  have hsz : (w1.setCell ⟨b, 20, none⟩ v).heap.size = w1.heap.size := by simp [World.setCell]
  have hcl : Clean o' (w1.setCell ⟨b, 20, none⟩ v) := by
    intro g hg
    rw [hsz] at hg
    have : ¬ v.ownBlock = some g := by intro e; have := (hlt g e).2; omega
    simp only [o', if_neg this]
    exact h.clean g (Nat.le_trans hb.size hg)
  have hoth : ∀ g, g < w.heap.size → g ≠ b → (w1.setCell ⟨b, 20, none⟩ v).heap[g]? = w.heap[g]? := by
    intro g hg hne
    rw [Below.heap_setCell _ _ _ g hne]; exact hb.block g hg
  refine ⟨o', ⟨hcl, (oold b hbl).trans h.tag, ?_, fun k hk => ?_, ?_⟩, ⟨hb.os, hb.tape, hb.output, by rw [hsz]; exact hb.size, hcl, oold, fun g hg hq => hoth g hg ?_⟩⟩
  · have := (h.blk.below hb).set 20 v
    exact this
  · exact (h.sent k hk).keep oold fun g hg ht => hoth g hg (by rintro rfl; rw [h.tag] at ht; simp at ht; omega)
  · refine ⟨own_keepAt own (fun g hg => Below.heap_setCell _ _ _ g (by have := (hlt g hg).1; simp; omega)) (Nat.zero_le _), fun g hg => ?_⟩
    simp only [o', if_pos hg]
  · rintro rfl; rw [h.tag] at hq; exact hq rfl

def PM.slotHas (m : PM) (c i : Int) (k : Nat) : Bool := (m.slot k).conn == c && (m.slot k).id == i
def PM.slotFrom (m : PM) (c i : Int) (k : Nat) : Nat → Option Nat
  | 0 => none
  | n + 1 => cond (m.slotHas c i k) (some k) (m.slotFrom c i (k + 1) n)
def PM.slotOf (m : PM) (c i : Int) : Option Nat := m.slotFrom c i 0 6

theorem PM.slotFrom_lt (m : PM) (c i : Int) (k n a : Nat) (h : m.slotFrom c i k n = some a) : a < k + n := by
  induction n generalizing k with
  | zero => simp [PM.slotFrom] at h
  | succ n ih =>
    simp only [PM.slotFrom] at h
    cases hr : m.slotHas c i k
    · rw [hr] at h
      have := ih (k + 1) h
      omega
    · rw [hr] at h
      simp only [cond_true, Option.some.injEq] at h
      omega

set_option maxRecDepth 100000 in
set_option maxHeartbeats 2000000 in
theorem slotOf_any (h : FMem o q w b m sv rv) (c i : Int) :
    Calls Tryz.prog 105 #[.pointer (some ⟨b, 0, none⟩), .agg #[.int .i64 c, .int .i64 i]] w fun r w' => r = .returned (fwV (m.slotOf c i)) ∧ Below w.heap.size w w' := by
  have hl := slots_range (h.alloc (.cells #[.int .i64 c, .int .i64 i] 88))
  have hn := slots_info m
  have hi := index_slots m
  unfold PM.slotOf
  generalize slotsCells m = SC at *
  simp only [PSlot.cells] at hi
  have x0 := Blk.made w 88 [.int .i64 c, .int .i64 i]
  go_enter Tryz.func105, Tryz.ntmps105
  go_wp2_with (refine wpList_load_mid rfl 61 (.tmp 10) rfl b 21 rfl SC _ hl Tryz.underlying61 rfl hn ?_)
  go_loopw [12] (fun j w' => ∃ k : Nat, k ≤ 6 ∧ m.slotFrom c i 0 6 = m.slotFrom c i k (6 - k) ∧ j = .int .i64 k ∧ Blk w' w.heap.size 88 [.int .i64 c, .int .i64 i] ∧ Below w.heap.size w w') (fun j _ => 6 - (intOf j).toNat)
  case atStart => exact ⟨0, by omega, rfl, rfl, x0, (Below.refl _ _).alloc (Nat.le_refl _) _⟩
  case round =>
    clear x0 hl hn
    obtain ⟨k, hk, hf, rfl, hx, hb⟩ := hrel
    have HF : Hid _ := hf
    clear hf
    by_cases hlt : k < 6
    · have hik := hi k hlt
      clear hi
      have HS : Hid (m.slotFrom c i k (6 - k) = cond (m.slotHas c i k) (some k) (m.slotFrom c i (k + 1) (6 - (k + 1)))) := by
        rw [show 6 - k = (6 - (k + 1)) + 1 from by omega]; rfl
      have y0 := fun ob => (hx.below ((Below.refl _ _).alloc (Nat.le_refl _) ob)).cell (k := 0) (u := .int .i64 c) rfl
      have y1 := fun ob => (hx.below ((Below.refl _ _).alloc (Nat.le_refl _) ob)).cell (k := 1) (u := .int .i64 i) rfl
      by_cases h1 : (m.slot k).conn = c
      · by_cases h2 : (m.slot k).id = i
        · have HT : Hid (m.slotHas c i k = true) := by show _ = _; simp [PM.slotHas, h1, h2]
          go_wp2
          go_ret2
          refine ⟨?_, hb.alloc (Nat.le_of_lt hx.lt) _⟩
          rw [HF.out, HS.out, HT.out]; rfl
        · have HT : Hid (m.slotHas c i k = false) := by show _ = _; simp [PM.slotHas, h2]
          go_wp2
          refine ⟨⟨k + 1, by omega, ?_, by go_num, hx.below ((Below.refl _ _).alloc (Nat.le_refl _) _), hb.alloc (Nat.le_of_lt hx.lt) _⟩, by simp [intOf]; omega⟩
          rw [HF.out, HS.out, HT.out]; rfl
      · have HT : Hid (m.slotHas c i k = false) := by show _ = _; simp [PM.slotHas, h1]
        go_wp2
        refine ⟨⟨k + 1, by omega, ?_, by go_num, hx.below ((Below.refl _ _).alloc (Nat.le_refl _) _), hb.alloc (Nat.le_of_lt hx.lt) _⟩, by simp [intOf]; omega⟩
        rw [HF.out, HS.out, HT.out]; rfl
    · have : k = 6 := by omega
      subst this
      go_wp2
      go_ret2
      refine ⟨?_, hb⟩
      rw [HF.out]; simp [PM.slotFrom, fwV]
end
end Go.Proofs.YtmjnengplfoiiaaGreat

namespace Go.Proofs.YtmjnengplfoiiaaGreat
open Go.RowKit

def PSlot.forget (s : PSlot) : PSlot := { s with conn := -1, id := 0 }

section
variable {o : Nat → Tag} {q : Nat} {w : World} {b : Nat} {m : PM} {sv : Nat → Value} {rv : Value}

theorem fcells_forget (m : PM) (sv : Nat → Value) (rv : Value) (k : Nat) (hk : k < 6) :
    ((fcells m sv rv).set (21 + k * 7 + 4) (.int .i64 (-1))).set (21 + k * 7 + 5) (.int .i64 0) = fcells { m with slot := upd m.slot k (m.slot k).forget } sv rv := by
  rcases k with _ | _ | _ | _ | _ | _ | k <;> first | rfl | omega

set_option maxRecDepth 100000 in
set_option maxHeartbeats 1000000 in
theorem forgetKey_any (h : FMem o q w b m sv rv) (k : Nat) (hk : k < 6) :
    Calls Tryz.prog 101 #[.pointer (some ⟨b, 21 + k * 7, none⟩)] w fun r w' => r = .returned (.tuple #[]) ∧ FMem o q w' b { m with slot := upd m.slot k (m.slot k).forget } sv rv ∧ Fr q o w o w' := by
  obtain ⟨-, -, -, -, c4, c5, -⟩ := h.slotc hk
  have fz := h.frozen
  go_enter Tryz.func101, Tryz.ntmps101
  go_wp2
  have hoth : ∀ x, x ≠ b → (((w.setCell ⟨b, 21 + k * 7 + 4, none⟩ (.int .i64 (-1))).setCell ⟨b, 21 + k * 7 + 5, none⟩ (.int .i64 0)).heap[x]?) = w.heap[x]? := by
    intro x hx
    repeat rw [Below.heap_setCell _ _ _ x (by simpa using hx)]
  have hbk := (h.blk.set (21 + k * 7 + 4) (.int .i64 (-1))).set (21 + k * 7 + 5) (.int .i64 0)
  rw [fcells_forget m sv rv k hk] at hbk
  have hm1 := h.put hbk (by simp [World.setCell]) hoth (fun _ _ => rfl) rfl
  exact bodyPost_end (v := .tuple #[]) (by simp [results, Tryz.results101, go_sem]) rfl ⟨rfl, hm1, h.fr_put hm1 (by simp [World.setCell]) (by simp [World.setCell]) (by simp [World.setCell]) (by simp [World.setCell]) hoth⟩

def PM.forgetAt (m : PM) : Option Nat → PM
  | some k => { m with slot := upd m.slot k (m.slot k).forget }
  | none => m
def PM.drop (m : PM) (c i : Int) : PM := { m with req := withoutL m.req c i }.forgetAt (m.slotOf c i)

set_option maxRecDepth 100000 in
set_option maxHeartbeats 2000000 in
theorem drop_any (h : FMem o q w b m sv rv) (c i : Int) (hmax : m.req.length ≤ 1000000000000) :
    Calls Tryz.prog 93 #[.pointer (some ⟨b, 0, none⟩), .agg #[.int .i64 c, .int .i64 i]] w fun r w' => r = .returned (.tuple #[]) ∧ ∃ o' rv', FMem o' q w' b (m.drop c i) sv rv' ∧ Fr q o w o' w' := by
  unfold PM.drop
  have hA := h.alloc (.cells #[.int .i64 c, .int .i64 i] 88)
  have fr0 := Fr.of_below (q := q) h.clean ((Below.refl w.heap.size w).alloc (Nat.le_refl _) (.cells #[.int .i64 c, .int .i64 i] 88))
  have x0 := Blk.made w 88 [.int .i64 c, .int .i64 i]
  go_enter Tryz.func93, Tryz.ntmps93
  go_wp2_with fail
  have x0 : Blk (w.alloc (.cells #[.int .i64 c, .int .i64 i] 88)) w.heap.size 88 [.int .i64 c, .int .i64 i] := x0
  have hlt : w.heap.size < (w.alloc (.cells #[.int .i64 c, .int .i64 i] 88)).heap.size := x0.lt
  generalize w.alloc (.cells #[.int .i64 c, .int .i64 i] 88) = w0 at *
  have y0 := x0.cell (k := 0) (u := .int .i64 c) rfl
  have y1 := x0.cell (k := 1) (u := .int .i64 i) rfl
  have y2 := hA.reqv
  have hAd := hA.below (Below.refl _ _).drew
  refine wp_region_noPanic ?_
  refine wp_region_held_drew (S := fun w' => w'.cell? ⟨w.heap.size, 0, none⟩ = some (.int .i64 c) ∧ w'.cell? ⟨w.heap.size, 1, none⟩ = some (.int .i64 i)) (by kernel_rfl) ⟨y0, y1⟩ (fun hHeld => ?_)
  refine take_at (i := 0) (v := ?_) rfl (by kernel_rfl) (by kernel_rfl) (by kernel_rfl) (fun _ _ _ h => h) (by rfl) ?_ (by assumption) ?_
  rotate_left
  · (intro wx hSw; obtain ⟨x0, x1⟩ := hSw; go_simp; with_reducible rfl)
  simp only [Act.put, List.setIfInBounds_toArray, List.set_cons_zero, List.set_cons_succ]
  refine take_at (i := 1) (v := ?_) rfl (by kernel_rfl) (by kernel_rfl) (by kernel_rfl) (fun _ _ _ h => h) (by rfl) ?_ (by assumption) ?_
  rotate_left
  · (intro wx hSw; obtain ⟨x0, x1⟩ := hSw; go_simp; with_reducible rfl)
  simp only [Act.put, List.setIfInBounds_toArray, List.set_cons_zero, List.set_cons_succ]
  refine take_at (i := 2) (v := ?_) rfl (by kernel_rfl) (by kernel_rfl) (by kernel_rfl) (fun _ _ _ h => h) (by rfl) ?_ (by assumption) ?_
  rotate_left
  · (intro wx hSw; obtain ⟨x0, x1⟩ := hSw; go_simp; with_reducible rfl)
  simp only [Act.put, List.setIfInBounds_toArray, List.set_cons_zero, List.set_cons_succ]
  refine take_at (i := 3) (v := ?_) rfl (by kernel_rfl) (by kernel_rfl) (by kernel_rfl) (fun _ _ _ h => h) (by rfl) ?_ (by assumption) ?_
  rotate_left
  · (intro wx hSw; obtain ⟨x0, x1⟩ := hSw; go_simp; with_reducible rfl)
  simp only [Act.put, List.setIfInBounds_toArray, List.set_cons_zero, List.set_cons_succ]
  refine take_at (i := 5) (v := ?_) rfl (by kernel_rfl) (by kernel_rfl) (by kernel_rfl) (fun _ _ _ h => h) (by rfl) ?_ (by assumption) ?_
  rotate_left
  · (intro wx hSw; obtain ⟨x0, x1⟩ := hSw; go_simp; with_reducible rfl)
  simp only [Act.put, List.setIfInBounds_toArray, List.set_cons_zero, List.set_cons_succ]
  refine only_at (i := 4) rfl (by kernel_rfl) (by rfl) (fun K hK => ?_)
  go_simp
  refine hK.out _ _ ⟨y0, y1⟩ ?_
  clear hK K hHeld
  refine only_at (i := 6) rfl (by kernel_rfl) (by rfl) (fun K hK => ?_)
  go_simp
  refine (without_any _ _ _ hAd.reqsAt c i hmax).mono ?_
  rintro e w1 ⟨v, rfl, own1, hb1⟩
  obtain ⟨av, cv, hv, -, -⟩ := own_slice own1
  subst hv
  have hm1 := hAd.below hb1
  have x1 := (x0.below (Below.refl _ _).drew).below hb1
  have y0' := x1.cell (k := 0) (u := .int .i64 c) rfl
  have y1' := x1.cell (k := 1) (u := .int .i64 i) rfl
  have z0 := hm1.reqv
  have fz := hm1.frozen
  have hne : w.heap.size ≠ b := by have := h.blk.lt; omega
  have hne' : b ≠ w.heap.size := fun e => hne e.symm
  have hS1 : w1.cell? ⟨w.heap.size, 0, none⟩ = some (.int .i64 c) ∧ w1.cell? ⟨w.heap.size, 1, none⟩ = some (.int .i64 i) := ⟨y0', y1'⟩
  refine hK.out _ _ hS1 ?_
  clear hK K y0 y1 y2
  refine take_at (i := 7) (v := ?_) rfl (by kernel_rfl) (by kernel_rfl) (by kernel_rfl) (fun _ _ _ h => h) (by rfl) ?_ (by assumption) ?_
  rotate_left
  · (intro wx hSw; obtain ⟨x0, x1⟩ := hSw; go_simp; with_reducible rfl)
  simp only [Act.put, List.setIfInBounds_toArray, List.set_cons_zero, List.set_cons_succ]
  refine take_at (i := 8) (v := ?_) rfl (by kernel_rfl) (by kernel_rfl) (by kernel_rfl) (fun _ _ _ h => h) (by rfl) ?_ (by assumption) ?_
  rotate_left
  · (intro wx hSw; obtain ⟨x0, x1⟩ := hSw; go_simp; with_reducible rfl)
  simp only [Act.put, List.setIfInBounds_toArray, List.set_cons_zero, List.set_cons_succ]
  refine only_at (i := 9) rfl (by kernel_rfl) (by rfl) (fun K hK => ?_)
  go_simp
  have x2 := x1.keep (w' := w1.setCell ⟨b, 20, none⟩ (.slice av (withoutL m.req c i).length cv)) (Below.heap_setCell _ _ _ _ (by simpa using hne))
  refine hK.out _ _ ⟨x2.cell rfl, x2.cell rfl⟩ ?_
  clear hK K
  refine wpAnyH_done (by kernel_rfl) ?_ _
  refine NoPanic.normal ?_
  obtain ⟨o', hm2, fr2⟩ := hAd.newReq hb1 _ (withoutL m.req c i) own1
  have frA : Fr q o w o' (w1.setCell ⟨b, 20, none⟩ (.slice av (withoutL m.req c i).length cv)) := (fr0.below (Below.refl _ _).drew).trans fr2
  have hslot : Hid ({ m with req := withoutL m.req c i }.slotOf c i = m.slotOf c i) := rfl
  clear z0 fz hS1 y0' y1' own1 hb1 hm1 hAd hA fr0 fr2 x0 x1
  generalize w1.setCell ⟨b, 20, none⟩ (.slice av (withoutL m.req c i).length cv) = w2 at *
  have y0 := x2.cell (k := 0) (u := .int .i64 c) rfl
  have y1 := x2.cell (k := 1) (u := .int .i64 i) rfl
  have hc : Hid (∀ w', FMem o' q w' b { m with req := withoutL m.req c i } sv (.slice av (withoutL m.req c i).length cv) → Calls Tryz.prog 105 #[.pointer (some ⟨b, 0, none⟩), .agg #[.int .i64 c, .int .i64 i]] w' fun r w'' => r = .returned (fwV (m.slotOf c i)) ∧ Below w'.heap.size w' w'') := fun w' h' => slotOf_any h' c i
  have hk0 := m.slotFrom_lt c i 0 6
  change ∀ a, m.slotOf c i = some a → a < 0 + 6 at hk0
  go_wp2_with fail
  refine (hc.out _ hm2).mono ?_
  rintro e w3 ⟨rfl, hb3⟩
  have hm3 := hm2.below hb3
  clear y0 y1 hc
  cases hs : m.slotOf c i with
  | none =>
    unfold fwV
    go_wp2
    exact bodyPost_end (v := .tuple #[]) (by simp [results, Tryz.results93, go_sem]) rfl ⟨rfl, o', _, by rw [hs]; exact hm3, frA.below hb3⟩
  | some k =>
    have hk : k < 6 := by have := hk0 k hs; omega
    unfold fwV
    go_wp2_with fail
    refine (forgetKey_any hm3 k hk).mono ?_
    rintro e w4 ⟨rfl, hm4, fr4⟩
    go_wp2
    exact bodyPost_end (v := .tuple #[]) (by simp [results, Tryz.results93, go_sem]) rfl ⟨rfl, o', _, by rw [hs]; exact hm4, (frA.below hb3).trans fr4⟩
end
end Go.Proofs.YtmjnengplfoiiaaGreat

namespace Go.Proofs.YtmjnengplfoiiaaGreat
open Go.RowKit

theorem wpList_append_M {ops : Array Oper} {rest : List Oper} {o : Oper} {a : Act} {Q : Exit → Act → World → Prop} (t : Int) (w : World) (hgd : o.guard = none) (s x : Operand)
    (ho : o.op = .call { callee := .builtin .append, args := #[s, x], argTypes := #[85, 85] })
    (base : Nat) (v : Value) (n : Nat) (hs : a.eval s = v) (hown : ownM t w base v n) (ad : Addr) (m c : Nat) (hx : a.eval x = .slice (some ad) m c)
    (hnews : ∀ j u, (ms t m)[j]? = some u → w.cell? (ad.add j) = some u) (hm : 0 < m) (hb : n + m ≤ 1000000000000) (hbase : base ≤ w.heap.size)
    (h : ∀ g cap w', ownM t w' base (.slice (some ⟨g, 0, none⟩) (n + m) cap) (n + m) → w.grownBy w' v.ownBlock → (∀ base' u k, ownM t w base' u k → ownM t w' base' u k) → g < w'.heap.size → wpList Tryz.prog ops Q rest (a.put o.dst (.slice (some ⟨g, 0, none⟩) (n + m) cap)) w') :
    wpList Tryz.prog ops Q (o :: rest) a w := by
  obtain ⟨g, cap, w', hr, h2, h3, h4, h5, -⟩ := append_M t w o.type base v n hown ad m c hnews hm hb hbase
  refine wpList_plain hgd fun K hK => ?_
  unfold Oper.wp execOp
  simp only [ho, resolve, invoke, builtin, Sem.run_bind, Sem.run_pure, Result.andThen_ok, List.map_toArray, List.map_cons, List.map_nil, hs, hx, hr]
  exact hK _ _ (h g cap w' h2 h3 h4 h5)

theorem news_ms (W : World) (g : Nat) (hg : W.heap.size = g) (t : Int) (m : Nat) (cs : Array Value) (hcs : cs.toList = ms t m) (T : TypeId) : ∀ j u, (ms t m)[j]? = some u → (W.alloc (.cells cs T)).cell? ((⟨g, 0, none⟩ : Addr).add j) = some u := by
  subst hg
  rw [← hcs]
  exact World.news_of_block (heap_alloc_new W _)

theorem news_vals (W : World) (g : Nat) (hg : W.heap.size = g) (l : List Value) (cs : Array Value) (hcs : cs.toList = l) (T : TypeId) : ∀ j u, l[j]? = some u → (W.alloc (.cells cs T)).cell? ((⟨g, 0, none⟩ : Addr).add j) = some u := by
  subst hg
  rw [← hcs]
  exact World.news_of_block (heap_alloc_new W _)

theorem infoKeys : (Tryz.prog.info? 85).map (fun i => (i.zero, i.size, i.bytes)) = some (some (.slice none 0 0), 1, 24) := by kernel_rfl

theorem ms_step (t : Int) (W : List (Int × Int)) (j : Nat) (h : j < W.length) :
    ((ms t j ++ keyCells (W.drop j)).set (j * 2) (.int .i64 t)).set (j * 2 + 1) (.int .i64 (-1)) = ms t (j + 1) ++ keyCells (W.drop (j + 1)) := by
  have e : keyCells (W.drop j) = .int .i64 W[j].1 :: .int .i64 W[j].2 :: keyCells (W.drop (j + 1)) := by
    rw [List.drop_eq_getElem_cons h]; rfl
  rw [e, List.set_append_right _ _ (by rw [ms_length]; omega), ms_length, Nat.sub_self, List.set_append_right _ _ (by rw [ms_length]; omega), ms_length]
  rw [show j * 2 + 1 - j * 2 = 1 from by omega, ms_add t j 1]
  simp [ms, keyCells]

theorem ms_rest (t : Int) (W : List (Int × Int)) (j : Nat) (h : j < W.length) :
    (ms t j ++ keyCells (W.drop j))[j * 2]? = some (.int .i64 W[j].1) ∧ (ms t j ++ keyCells (W.drop j))[j * 2 + 1]? = some (.int .i64 W[j].2) := by
  have e : keyCells (W.drop j) = .int .i64 W[j].1 :: .int .i64 W[j].2 :: keyCells (W.drop (j + 1)) := by
    rw [List.drop_eq_getElem_cons h]; rfl
  rw [e, List.getElem?_append_right (by rw [ms_length]; omega), List.getElem?_append_right (by rw [ms_length]; omega), ms_length, Nat.sub_self, show j * 2 + 1 - j * 2 = 1 from by omega]
  simp

theorem keyCells_get (W : List (Int × Int)) (j : Nat) (h : j < W.length) : (keyCells W)[j * 2]? = some (.int .i64 W[j].1) ∧ (keyCells W)[j * 2 + 1]? = some (.int .i64 W[j].2) := by
  induction W generalizing j with
  | nil => simp at h
  | cons r l ih =>
    have e : keyCells (r :: l) = .int .i64 r.1 :: .int .i64 r.2 :: keyCells l := by simp [keyCells]
    cases j with
    | zero => simp [e]
    | succ j =>
      have := ih j (by simpa using h)
      rw [e, show (j + 1) * 2 = j * 2 + 1 + 1 from by omega]
      simpa using this

/-- While the owner writes over his list. -/
structure Bl (w : World) (B1 B2 n : Nat) (a b : Value) (xs ys : List Value) (t : Int) (W : World) : Prop where
  oa : W.ownsRow w.heap.size 88 2 a n xs
  ob : W.ownsRow B1 88 2 b n ys
  x : Blk W B2 88 [.int .i64 t, .int .i64 (-1)]
  bel : Below w.heap.size w W

theorem Bl.step {w : World} {B1 B2 n : Nat} {a b : Value} {ys : List Value} {t : Int} {W W' : World} {o : Obj} (h : Bl w B1 B2 n a b (ms t n) ys t W) (ha : ∀ k, a.ownBlock = some k → w.heap.size ≤ k ∧ k < B1) (hB : B1 ≤ B2)
    (hg : (W.alloc o).grownBy W' a.ownBlock) (hk : ∀ base' u k, ownM t (W.alloc o) base' u k → ownM t W' base' u k) : Bl w B1 B2 n a b (ms t n) ys t W' := by
  have hne : some B2 ≠ a.ownBlock := fun e => by have := ha _ e.symm; omega
  refine ⟨hk _ _ _ (World.ownsRow.alloc h.oa o), (h.ob.alloc o).kept hg ?_, ?_, (h.bel.alloc (by have := h.bel.size; omega) o).grown hg (by have := h.bel.size; simp; omega) (fun k e => (ha k e).1)⟩
  · rcases hb : b.ownBlock with _ | kb
    · exact .inl rfl
    · right
      have := h.ob.lt kb hb
      intro e
      have := ha kb e.symm
      omega
  · exact h.x.keep ((hg.block B2 (by have := h.x.lt; simp; omega) hne).trans (Below.heap_alloc _ _ B2 h.x.lt))

section
variable {o : Nat → Tag} {w : World} {gb fb wb : Nat} {ls ts : List Value} {lv tv : Value} {m : PM} {sv : Nat → Value} {rv : Value} {M : RM} {nv : Nat → Value} {kv qv : Value}

set_option maxRecDepth 100000 in
set_option maxHeartbeats 4000000 in
theorem gbacklog_any (h : Trio o w gb fb wb ls ts lv tv m sv rv M nv kv qv) (hwf : M.wf) (hW : M.waits = m.waits) (h1 : m.req.length ≤ 100000000000) (h2 : M.queue.length ≤ 100000000000) (h3 : ls.length ≤ 100000000000) :
    Calls Tryz.prog 17 #[.pointer (some ⟨gb, 0, none⟩)] w fun r w' => r = .returned (.bool true) ∧ ∃ o' ls' ts' lv' tv', Trio o' w' gb fb wb ls' ts' lv' tv' m sv rv M nv kv qv ∧ Fr 3 o w o' w' ∧ ls'.length = ls.length + 1 := by
  obtain ⟨i0, hi, hz0, hz1, hz2⟩ := info_parts infoKeys
  have hwl : m.waits.length ≤ 100000000000 := by
    have : m.waits.length ≤ m.req.length := by simp only [PM.waits, List.length_map]; exact List.length_filter_le _ _
    omega
  have hts : ts.length ≤ 300000000000 := by have := h.g.len; omega
  have k1 : Hid (∀ w', FMem o 1 w' fb m sv rv → Calls Tryz.prog 39 #[.pointer (some ⟨fb, 0, none⟩)] w' fun r w'' => ∃ v, r = .returned v ∧ w''.ownsRow w'.heap.size 88 2 v m.waits.length (keyCells m.waits) ∧ Below w'.heap.size w' w'') := fun w' h' => backlog_any h' (by omega)
  have k2 : Hid (∀ w', RMem o 2 w' wb M nv kv qv → Calls Tryz.prog 40 #[.pointer (some ⟨wb, 0, none⟩)] w' fun r w'' => ∃ v, r = .returned v ∧ w''.ownsRow w'.heap.size 88 2 v m.waits.length (keyCells m.waits) ∧ Below w'.heap.size w' w'') := fun w' h' => hW ▸ rBacklog_any h' hwf (by omega)
  clear hW h1 h2
  generalize m.waits = W at *
  have c0 := h.g.fc
  go_enter Tryz.func17, Tryz.ntmps17
  go_wp2_with fail
  refine (k1.out _ h.f).mono ?_
  rintro e w1 ⟨va, rfl, oa, b1⟩
  have t1 := h.below b1
  have c1 := t1.g.wc
  clear c0
  go_wp2_with fail
  refine (k2.out _ t1.r).mono ?_
  rintro e w2 ⟨vb, rfl, ob, b2⟩
  have t2 := t1.below b2
  have oa2 := own_keepAt oa (fun g hg => b2.block g (oa.lt g hg).2) (Nat.le_refl _)
  have b12 : Below w.heap.size w w2 := b1.trans (b2.mono b1.size)
  have ha1 := oa.lt
  have hs1 := b1.size
  have hs2 := b2.size
  clear c1 oa b1 b2 k1 k2 t1
  obtain ⟨aa, ca, rfl, hna, ha0⟩ := own_slice oa2
  obtain ⟨ab, cb, rfl, hnb, hb0⟩ := own_slice ob
  obtain ⟨al, cl, rfl, hnl, -⟩ := h.g.lists.form
  have c2 := t2.g.lc
  go_wp2_with fail
  have hX := Blk.made w2 88 [.int .i64 (-1 - (ls.length : Int)), .int .i64 (-1)]
  have bl0 : Bl w w1.heap.size w2.heap.size W.length (.slice aa W.length ca) (.slice ab W.length cb) (ms (-1 - (ls.length : Int)) 0 ++ keyCells (W.drop 0)) (keyCells W) (-1 - (ls.length : Int)) (w2.alloc (.cells #[.int .i64 (-1 - (ls.length : Int)), .int .i64 (-1)] 88)) :=
    ⟨oa2.alloc _, ob.alloc _, hX, b12.alloc (by omega) _⟩
  go_loopw [6, 7] (fun s i w' => ∃ j : Nat, j ≤ W.length ∧ s = .bool true ∧ i = .int .i64 j ∧ Bl w w1.heap.size w2.heap.size W.length (.slice aa W.length ca) (.slice ab W.length cb) (ms (-1 - (ls.length : Int)) j ++ keyCells (W.drop j)) (keyCells W) (-1 - (ls.length : Int)) w') (fun _ i _ => W.length - (intOf i).toNat)
  case atStart => exact ⟨0, by omega, rfl, rfl, bl0⟩
  case round =>
    clear bl0 hX c2
    obtain ⟨j, hj, rfl, rfl, bl⟩ := hrel
    generalize ht : (-1 - (ls.length : Int)) = t at *
    have HT : Hid _ := ht
    clear ht
    by_cases hlt : j < W.length
    · obtain ⟨ga, rfl, hga0, hga⟩ := ha0 (by omega)
      obtain ⟨gq, rfl, hgb0, hgb⟩ := hb0 (by omega)
      have hga1 := ha1 ga rfl
      have p0 := bl.oa.cellAt (j * 2) (by omega)
      have p1 := bl.oa.cellAt (j * 2 + 1) (by omega)
      rw [(ms_rest t W j hlt).1] at p0
      rw [(ms_rest t W j hlt).2] at p1
      have q0 := bl.ob.cellAt (j * 2) (by omega)
      have q1 := bl.ob.cellAt (j * 2 + 1) (by omega)
      rw [(keyCells_get W j hlt).1] at q0
      rw [(keyCells_get W j hlt).2] at q1
      have x0 := bl.x.cell (k := 0) (u := .int .i64 t) rfl
      have x1 := bl.x.cell (k := 1) (u := .int .i64 (-1)) rfl
      have f0 : ∀ i, wr.frozen? ⟨ga, i, none⟩ = false := fun i => bl.oa.frozenAt i
      have HR := ms_step t W j hlt
      generalize W[j] = K at *
      go_wp2
      go_quiet (fail)
      go_wp2
      have hg1 : ga ≠ w2.heap.size := by omega
      refine ⟨⟨j + 1, by omega, by first | rfl | simp, by go_num, ?_⟩, by simp [intOf]; omega⟩
      have s1 := bl.oa.stored (j * 2) (.int .i64 t)
      have s2 := s1.1.stored (j * 2 + 1) (.int .i64 (-1))
      rw [HR] at s2
      refine ⟨s2.1, ?_, ?_, ?_⟩
      · exact ownsRow_setCell_below (ownsRow_setCell_below bl.ob hga1.2 _) hga1.2 _
      · exact (bl.x.keep (Below.heap_setCell _ _ _ _ (by simpa using hg1.symm))).keep (Below.heap_setCell _ _ _ _ (by simpa using hg1.symm))
      · exact ((below_dN bl.bel).setCell hga1.1 _).setCell hga1.1 _
    · have hjn : j = W.length := by omega
      subst hjn
      have st : Bl w w1.heap.size w2.heap.size W.length (.slice aa W.length ca) (.slice ab W.length cb) (ms t W.length) (keyCells W) t wr := by
        have := bl
        rw [List.drop_length, show keyCells [] = [] from rfl, List.append_nil] at this
        exact this
      clear bl hlt hj
      have x0 := st.x.cell (k := 0) (u := .int .i64 t) rfl
      have x1 := st.x.cell (k := 1) (u := .int .i64 (-1)) rfl
      have z := st.bel.size
      go_wp2_with (at_builtin; refine wpList_append_M t _ rfl _ _ rfl w.heap.size _ W.length rfl (World.ownsRow.alloc st.oa _) ⟨wr.heap.size, 0, none⟩ 1 1 rfl (news_ms _ _ (by simp) t 1 _ rfl _) (by omega) (by omega) (by simp; omega) ?_)
      intro g1 e1 w5 o1 hg hk lt1
      have st5 := st.step ha1 hs2 hg hk
      clear st hg hk x0 x1 z
      have x0 := st5.x.cell (k := 0) (u := .int .i64 t) rfl
      have x1 := st5.x.cell (k := 1) (u := .int .i64 (-1)) rfl
      have z := st5.bel.size
      go_wp2_with (at_builtin; refine wpList_append_M t _ rfl _ _ rfl w.heap.size _ W.length rfl (World.ownsRow.alloc st5.oa _) ⟨w5.heap.size, 0, none⟩ 2 2 rfl (news_ms _ _ (by simp) t 2 _ rfl _) (by omega) (by omega) (by simp; omega) ?_)
      intro g2 e2 w6 o2 hg hk lt2
      have st6 := st5.step ha1 hs2 hg hk
      have o1' := hk _ _ _ (World.ownsRow.alloc o1 _)
      clear st5 hg hk x0 x1 z o1 lt1
      have x0 := st6.x.cell (k := 0) (u := .int .i64 t) rfl
      have x1 := st6.x.cell (k := 1) (u := .int .i64 (-1)) rfl
      have z := st6.bel.size
      go_wp2_with (at_builtin; refine wpList_append_M t _ rfl _ _ rfl w.heap.size _ W.length rfl (World.ownsRow.alloc st6.oa _) ⟨w6.heap.size, 0, none⟩ 3 3 rfl (news_ms _ _ (by simp) t 3 _ rfl _) (by omega) (by omega) (by simp; omega) ?_)
      intro g3 e3 w7 o3 hg hk lt3
      have st7 := st6.step ha1 hs2 hg hk
      have o1'' := hk _ _ _ (World.ownsRow.alloc o1' _)
      have o2' := hk _ _ _ (World.ownsRow.alloc o2 _)
      have oa7 : ownM t w7 w.heap.size (.slice aa W.length ca) W.length := st7.oa
      have b7 := st7.bel
      clear st6 st7 hg hk x0 x1 z o1' o2 lt2 lt3 ha0 hb0 oa2 ob t2 b12
      have t7 := h.below (b7.mono (Nat.le_refl _))
      have c2 := t7.g.lc
      have cA := fun ob => (t7.below ((Below.refl _ _).alloc (Nat.le_refl _) ob)).g
      have r7 := t7.g.lists.1
      have z7 := b7.size
      go_wp2_with (at_builtin; refine wpList_append_lies _ rfl _ _ 42 rfl 0 85 i0 (.slice none 0 0) 1 24 Tryz.underlying42 hi hz0 hz1 hz2 rfl (by omega) _ ls.length ls rfl ?qown ⟨w7.heap.size, 0, none⟩ 1 1 [.slice aa W.length ca] rfl rfl ?qnews ?q1 (by omega) ?q63 ?qby (Nat.zero_le _) (w7.heap.size + 1) ?qH ?_)
      case qown => exact r7.alloc _
      case qnews => exact news_vals _ _ (by simp) _ _ rfl _
      case q1 => intro u hu; simp only [List.mem_cons, List.not_mem_nil, or_false] at hu; subst hu; rfl
      case q63 => unfold maxLen; omega
      case qby => omega
      case qH => simp
      intro G1 f1 w8 own8 hg8 hat8 hlt8
      have tgb := h.g.tag
      have tlv := h.g.lists.2
      have ttv := h.g.tails.2
      have ltv := h.g.tails.1.lt
      have ne1 : some gb ≠ (Value.slice al ls.length cl).ownBlock := by intro e; have := tlv _ e.symm; rw [tgb] at this; simp at this
      have bk7 := t7.g.blk
      have r7t := t7.g.tails.1
      have bk8 : Blk w8 gb _ _ := bk7.keep ((hg8.block gb (by have := bk7.lt; simp; omega) ne1).trans (Below.heap_alloc _ _ gb bk7.lt))
      have ot8 : (w8.setCell ⟨gb, 2, none⟩ (.slice (some ⟨G1, 0, none⟩) (ls.length + 1) f1)).ownsRow 0 85 1 tv ts.length ts := by
        refine own_keepAt r7t (fun g hg => ?_) (Nat.le_refl _)
        have hgl := ltv g hg
        have hgt := ttv g hg
        have n1 : g ≠ gb := by rintro rfl; rw [tgb] at hgt; simp at hgt
        have n2 : some g ≠ (Value.slice al ls.length cl).ownBlock := by intro e; have := tlv _ e.symm; rw [hgt] at this; simp at this
        rw [Below.heap_setCell _ _ _ g n1, hg8.block g (by simp; omega) n2, Below.heap_alloc _ _ g (by omega)]
      have d2 := bk8.cell (k := 2) (u := .slice al ls.length cl) rfl
      have d3 := bk8.cell (k := 3) (u := tv) rfl
      have fz := bk8.frozen
      have hs8 : (w8.setCell ⟨gb, 2, none⟩ (.slice (some ⟨G1, 0, none⟩) (ls.length + 1) f1)).heap.size = w8.heap.size := by simp [World.setCell]
      have b9 := bk8.set 2 (.slice (some ⟨G1, 0, none⟩) (ls.length + 1) f1)
      clear c2 cA r7 t7 bk7 r7t
      go_wp2_with (at_builtin; refine wpList_append_lies _ rfl _ _ 42 rfl 0 85 i0 (.slice none 0 0) 1 24 Tryz.underlying42 hi hz0 hz1 hz2 rfl (by omega) tv ts.length ts rfl ?qown2 ⟨w8.heap.size, 0, none⟩ 3 3 [.slice (some ⟨g1, 0, none⟩) (W.length + 1) e1, .slice (some ⟨g2, 0, none⟩) (W.length + 2) e2, .slice (some ⟨g3, 0, none⟩) (W.length + 3) e3] rfl rfl ?qnews2 ?q12 (by omega) ?q632 ?qby2 (Nat.zero_le _) (w8.heap.size + 1) ?qH2 ?_)
      case qown2 => exact ot8.alloc _
      case qnews2 => exact news_vals _ _ (by simp) _ _ rfl _
      case q12 => intro u hu; simp only [List.mem_cons, List.not_mem_nil, or_false] at hu; rcases hu with rfl | rfl | rfl <;> rfl
      case q632 => unfold maxLen; omega
      case qby2 => omega
      case qH2 => simp
      intro G2 f2 w10 own10 hg10 hat10 hlt10
      have ne2 : some gb ≠ tv.ownBlock := by intro e; have := ttv _ e.symm; rw [tgb] at this; simp at this
      have b10 : Blk w10 gb _ _ := b9.keep ((hg10.block gb (by have := b9.lt; simp; omega) ne2).trans (Below.heap_alloc _ _ gb b9.lt))
      have e3' := b10.cell (k := 3) (u := tv) rfl
      have fz' := b10.frozen
      clear d2 d3 fz
      go_wp2
      go_ret
      obtain ⟨o', tr, fr⟩ := h.push b7 HT.out.symm oa7 o1'' o2' o3 own8 hg8 hat8 hlt8 own10 hg10 hat10 hlt10
      exact ⟨by first | rfl | simp, o', _, _, _, _, tr, fr, by simp⟩

end
end Go.Proofs.YtmjnengplfoiiaaGreat
