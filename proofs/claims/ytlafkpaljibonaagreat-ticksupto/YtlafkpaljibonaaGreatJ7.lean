import Derived.Test.YtlafkpaljibonaaGreatJ6
namespace Go.Proofs.YtlafkpaljibonaaGreat
open Go.RowKit

def RM.over (m : RM) (a : Nat) : RM := { m with keys := m.keys.set a { m.key a with is := 3 } }
def RM.endKey (m : RM) (a : Nat) (st : Int) : RM := (m.send (m.key a).conn.toNat (3, (m.key a).id, strOfNums [st])).over a

section
variable {o : Nat → Tag} {q : Nat} {w : World} {b : Nat} {m : RM} {lv : Nat → Value} {kv qv : Value}

set_option maxRecDepth 100000 in
set_option maxHeartbeats 4000000 in
theorem rEnd_any (h : RMem o q w b m lv kv qv) (a : Nat) (ha : a < m.keys.length) (n : Nat) (hn : n < 4) (hcn : m.keys[a].conn = n) (st : Int) (h0 : 0 ≤ st) (h1 : st ≤ 255) (hmax : (m.line n).sent.length ≤ 1000000000000) :
    Calls Tryz.prog 60 #[.pointer (some ⟨b, 0, none⟩), .int .i64 a, .int .i64 st] w fun r w' => r = .returned (.tuple #[]) ∧ ∃ o' lv', RMem o' q w' b (m.endKey a st) lv' kv qv ∧ Fr q o w o' w' := by
  have hke := m.key_eq ha
  have hE : m.endKey a st = { m.send n (3, m.keys[a].id, strOfNums [st]) with keys := m.keys.set a { m.keys[a] with is := 3 } } := by
    unfold RM.endKey RM.over
    rw [show (m.send (m.key a).conn.toNat (3, (m.key a).id, strOfNums [st])).key a = m.key a from rfl, hke, show m.keys[a].conn.toNat = n from by rw [hcn]; simp]
    rfl
  rw [hE]
  have hset : rkeyCells (m.keys.set a { m.keys[a] with is := 3 }) = (rkeyCells m.keys).set (a * 4 + 3) (.int .i64 3) := rkeyCells_is m.keys a ha 3
  have HSET : Hid _ := hset
  have hlen : (m.keys.set a { m.keys[a] with is := 3 }).length = m.keys.length := by simp
  generalize m.keys.set a { m.keys[a] with is := 3 } = L at *
  clear hset hE
  obtain ⟨ak, ck, rfl, hkn, hrow⟩ := h.klist
  obtain ⟨g, rfl, hg, hgb, hgo, fg, c0, c1, c2, c3⟩ := hrow a ha
  rw [hcn] at c0
  have hrow2 : Hid (∀ (o' : Nat → Tag) (w' : World) (lv' : Nat → Value) (m' : RM), m'.keys = m.keys → RMem o' q w' b m' lv' (.slice (some ⟨g, 0, none⟩) m.keys.length ck) qv → w'.cell? ⟨b, 54, none⟩ = some (.slice (some ⟨g, 0, none⟩) m.keys.length ck) ∧ w'.cell? ⟨g, a * 4, none⟩ = some (.int .i64 n) ∧ w'.cell? ⟨g, a * 4 + 1, none⟩ = some (.int .i64 m.keys[a].id) ∧ w'.cell? ⟨g, a * 4 + 3, none⟩ = some (.int .i64 m.keys[a].is) ∧ ∀ j, w'.frozen? ⟨g, j, none⟩ = false) := by
    intro o' w' lv' m' hk' h'
    have ha' : a < m'.keys.length := by rw [hk']; exact ha
    obtain ⟨ak', ck', e, -, hr'⟩ := h'.klist
    rw [hk'] at e
    simp only [Value.slice.injEq, true_and] at e
    obtain ⟨rfl, rfl⟩ := e
    obtain ⟨g', e', -, -, -, fg', d0, d1, -, d3⟩ := hr' a ha'
    simp only [Option.some.injEq, Addr.mk.injEq, and_true] at e'
    subst e'
    simp only [hk'] at d0 d1 d3
    rw [hcn] at d0
    exact ⟨h'.keysv, d0, d1, d3, fg'⟩
  clear hrow c2 c3 fg
  generalize m.keys[a].id = id at *
  generalize m.keys[a].is = is at *
  have haI : (a : Int) < m.keys.length := by omega
  have hst : st % 256 = st := by omega
  have hwu : IntKind.u8.wrap st = st := by rw [IntKind.wrap_u8]; exact hst
  have hmd := h.below (Below.refl _ _).drew
  have hcv := conv_lit w.drew w.heap.size rfl 1 [st] #[.int .u8 st] rfl rfl (by omega)
  have hmA := hmd.alloc (.cells #[.int .u8 st] 5)
  have hSd := hrow2.out o w.drew lv m rfl hmd
  have hSA := hrow2.out o _ lv m rfl hmA
  have frA : Fr q o w o (w.drew.alloc (.cells #[.int .u8 st] 5)) := Fr.of_below h.clean ((Below.refl _ _).drew.alloc (Nat.le_refl _) _)
  clear hcn hke c0 c1
  go_enter Tryz.func60, Tryz.ntmps60
  go_wp2_with fail
  refine wp_region_noPanic ?_
  refine wp_region_held_drew (S := fun w' => w'.cell? ⟨b, 54, none⟩ = some (.slice (some ⟨g, 0, none⟩) m.keys.length ck) ∧ w'.cell? ⟨g, a * 4, none⟩ = some (.int .i64 n) ∧ w'.cell? ⟨g, a * 4 + 1, none⟩ = some (.int .i64 id)) (by kernel_rfl) ⟨hSd.1, hSd.2.1, hSd.2.2.1⟩ (fun hHeld => ?_)
  refine take_at (i := 0) (v := ?_) rfl (by kernel_rfl) (by kernel_rfl) (by kernel_rfl) (fun _ _ _ h => h) (by rfl) ?_ (by assumption) ?_
  rotate_left
  · (intro wx hSw; obtain ⟨x0, x1, x2⟩ := hSw; go_simp; with_reducible rfl)
  simp only [Act.put, List.setIfInBounds_toArray, List.set_cons_zero, List.set_cons_succ]
  refine take_at (i := 1) (v := ?_) rfl (by kernel_rfl) (by kernel_rfl) (by kernel_rfl) (fun _ _ _ h => h) (by rfl) ?_ (by assumption) ?_
  rotate_left
  · (intro wx hSw; obtain ⟨x0, x1, x2⟩ := hSw; go_simp; with_reducible rfl)
  simp only [Act.put, List.setIfInBounds_toArray, List.set_cons_zero, List.set_cons_succ]
  refine take_at (i := 2) (v := ?_) rfl (by kernel_rfl) (by kernel_rfl) (by kernel_rfl) (fun _ _ _ h => h) (by rfl) ?_ (by assumption) ?_
  rotate_left
  · (intro wx hSw; obtain ⟨x0, x1, x2⟩ := hSw; go_simp; with_reducible rfl)
  simp only [Act.put, List.setIfInBounds_toArray, List.set_cons_zero, List.set_cons_succ]
  refine take_at (i := 3) (v := ?_) rfl (by kernel_rfl) (by kernel_rfl) (by kernel_rfl) (fun _ _ _ h => h) (by rfl) ?_ (by assumption) ?_
  rotate_left
  · (intro wx hSw; obtain ⟨x0, x1, x2⟩ := hSw; go_simp; with_reducible rfl)
  simp only [Act.put, List.setIfInBounds_toArray, List.set_cons_zero, List.set_cons_succ]
  refine take_at (i := 4) (v := ?_) rfl (by kernel_rfl) (by kernel_rfl) (by kernel_rfl) (fun _ _ _ h => h) (by rfl) ?_ (by assumption) ?_
  rotate_left
  · (intro wx hSw; obtain ⟨x0, x1, x2⟩ := hSw; go_simp; with_reducible rfl)
  simp only [Act.put, List.setIfInBounds_toArray, List.set_cons_zero, List.set_cons_succ]
  refine take_at (i := 5) (v := ?_) rfl (by kernel_rfl) (by kernel_rfl) (by kernel_rfl) (fun _ _ _ h => h) (by rfl) ?_ (by assumption) ?_
  rotate_left
  · (intro wx hSw; obtain ⟨x0, x1, x2⟩ := hSw; go_simp; with_reducible rfl)
  simp only [Act.put, List.setIfInBounds_toArray, List.set_cons_zero, List.set_cons_succ]
  refine take_at (i := 6) (v := ?_) rfl (by kernel_rfl) (by kernel_rfl) (by kernel_rfl) (fun _ _ _ h => h) (by rfl) ?_ (by assumption) ?_
  rotate_left
  · (intro wx hSw; obtain ⟨x0, x1, x2⟩ := hSw; go_simp; with_reducible rfl)
  simp only [Act.put, List.setIfInBounds_toArray, List.set_cons_zero, List.set_cons_succ]
  refine take_at (i := 7) (v := ?_) rfl (by kernel_rfl) (by kernel_rfl) (by kernel_rfl) (fun _ _ _ h => h) (by rfl) ?_ (by assumption) ?_
  rotate_left
  · (intro wx hSw; obtain ⟨x0, x1, x2⟩ := hSw; go_simp; with_reducible rfl)
  simp only [Act.put, List.setIfInBounds_toArray, List.set_cons_zero, List.set_cons_succ]
  refine take_at (i := 8) (v := ?_) rfl (by kernel_rfl) (by kernel_rfl) (by kernel_rfl) (fun _ _ _ h => h) (by rfl) ?_ (by assumption) ?_
  rotate_left
  · (intro wx hSw; obtain ⟨x0, x1, x2⟩ := hSw; go_simp; with_reducible rfl)
  simp only [Act.put, List.setIfInBounds_toArray, List.set_cons_zero, List.set_cons_succ]
  refine take_at (i := 9) (v := ?_) rfl (by kernel_rfl) (by kernel_rfl) (by kernel_rfl) (fun _ _ _ h => h) (by rfl) ?_ (by assumption) ?_
  rotate_left
  · (intro wx hSw; obtain ⟨x0, x1, x2⟩ := hSw; go_simp; with_reducible rfl)
  simp only [Act.put, List.setIfInBounds_toArray, List.set_cons_zero, List.set_cons_succ]
  refine take_at (i := 10) (v := ?_) rfl (by kernel_rfl) (by kernel_rfl) (by kernel_rfl) (fun _ _ _ h => h) (by rfl) ?_ (by assumption) ?_
  rotate_left
  · (intro wx hSw; obtain ⟨x0, x1, x2⟩ := hSw; go_simp; with_reducible rfl)
  simp only [Act.put, List.setIfInBounds_toArray, List.set_cons_zero, List.set_cons_succ]
  refine take_at (i := 11) (v := ?_) rfl (by kernel_rfl) (by kernel_rfl) (by kernel_rfl) (fun _ _ _ h => h) (by rfl) ?_ (by assumption) ?_
  rotate_left
  · (intro wx hSw; obtain ⟨x0, x1, x2⟩ := hSw; go_simp; with_reducible rfl)
  simp only [Act.put, List.setIfInBounds_toArray, List.set_cons_zero, List.set_cons_succ]
  refine take_at (i := 12) (v := ?_) rfl (by kernel_rfl) (by kernel_rfl) (by kernel_rfl) (fun _ _ _ h => h) (by rfl) ?_ (by assumption) ?_
  rotate_left
  · (intro wx hSw; obtain ⟨x0, x1, x2⟩ := hSw; go_simp; with_reducible rfl)
  simp only [Act.put, List.setIfInBounds_toArray, List.set_cons_zero, List.set_cons_succ]
  refine take_at (i := 13) (v := ?_) rfl (by kernel_rfl) (by kernel_rfl) (by kernel_rfl) (fun _ _ _ h => h) (by rfl) ?_ (by assumption) ?_
  rotate_left
  · (intro wx hSw; obtain ⟨x0, x1, x2⟩ := hSw; go_simp; with_reducible rfl)
  simp only [Act.put, List.setIfInBounds_toArray, List.set_cons_zero, List.set_cons_succ]
  refine take_at (i := 14) (v := ?_) rfl (by kernel_rfl) (by kernel_rfl) (by kernel_rfl) (fun _ _ _ h => h) (by rfl) ?_ (by assumption) ?_
  rotate_left
  · (intro wx hSw; obtain ⟨x0, x1, x2⟩ := hSw; go_simp; with_reducible rfl)
  simp only [Act.put, List.setIfInBounds_toArray, List.set_cons_zero, List.set_cons_succ]
  refine take_at (i := 15) (v := ?_) rfl (by kernel_rfl) (by kernel_rfl) (by kernel_rfl) (fun _ _ _ h => h) (by rfl) ?_ (by assumption) ?_
  rotate_left
  · (intro wx hSw; obtain ⟨x0, x1, x2⟩ := hSw; go_simp; with_reducible rfl)
  simp only [Act.put, List.setIfInBounds_toArray, List.set_cons_zero, List.set_cons_succ]
  refine take_at (i := 16) (v := ?_) rfl (by kernel_rfl) (by kernel_rfl) (by kernel_rfl) (fun _ _ _ h => h) (by rfl) ?_ (by assumption) ?_
  rotate_left
  · (intro wx hSw; obtain ⟨x0, x1, x2⟩ := hSw; go_simp; with_reducible rfl)
  simp only [Act.put, List.setIfInBounds_toArray, List.set_cons_zero, List.set_cons_succ]
  refine take_at (i := 17) (v := ?_) rfl (by kernel_rfl) (by kernel_rfl) (by kernel_rfl) (fun _ _ _ h => h) (by rfl) ?_ (by assumption) ?_
  rotate_left
  · (intro wx hSw; obtain ⟨x0, x1, x2⟩ := hSw; go_simp; with_reducible rfl)
  simp only [Act.put, List.setIfInBounds_toArray, List.set_cons_zero, List.set_cons_succ]
  refine take_at (i := 18) (v := ?_) rfl (by kernel_rfl) (by kernel_rfl) (by kernel_rfl) (fun _ _ _ h => h) (by rfl) ?_ (by assumption) ?_
  rotate_left
  · (intro wx hSw; obtain ⟨x0, x1, x2⟩ := hSw; go_simp; with_reducible rfl)
  simp only [Act.put, List.setIfInBounds_toArray, List.set_cons_zero, List.set_cons_succ]
  refine only_at (i := 19) rfl (by kernel_rfl) (by rfl) (fun K hK => ?_)
  go_simp
  refine hK.out _ (w.drew.alloc (.cells #[.int .u8 st] 5)) ⟨hSA.1, hSA.2.1, hSA.2.2.1⟩ ?_
  clear hK K hHeld
  have hcv2 : (convert 53 9 (.slice (some ⟨w.heap.size, 0, none⟩) 1 1)).run Tryz.prog (w.alloc (.cells #[.int .u8 st] 5)).drew = .ok (.string (strOfNums [st])) (w.alloc (.cells #[.int .u8 st] 5)).drew := hcv
  try simp only [Act.put, List.setIfInBounds_toArray, List.set_cons_zero, List.set_cons_succ]
  refine only_at (i := 20) rfl (by kernel_rfl) (by rfl) (fun K hK => ?_)
  go_simp
  refine hK.out _ (w.drew.alloc (.cells #[.int .u8 st] 5)) ⟨hSA.1, hSA.2.1, hSA.2.2.1⟩ ?_
  clear hK K
  try simp only [Act.put, List.setIfInBounds_toArray, List.set_cons_zero, List.set_cons_succ]
  refine only_at (i := 21) rfl (by kernel_rfl) (by rfl) (fun K hK => ?_)
  go_simp
  refine (rSend_any hmA n hn 3 id (strOfNums [st]) hmax).mono ?_
  rintro e w2 ⟨rfl, o2, lv2, hm2, fr2⟩
  have hS2 := hrow2.out o2 w2 lv2 (m.send n (3, id, strOfNums [st])) rfl hm2
  refine hK.out _ _ ⟨hS2.1, hS2.2.1, hS2.2.2.1⟩ ?_
  clear hK K
  refine wpAnyH_done (by kernel_rfl) ?_ _
  refine NoPanic.normal ?_
  obtain ⟨z0, z1, z2, z3, fz⟩ := hS2
  clear hSd hSA hcv hcv2 hmd
  obtain ⟨hm3, fr3⟩ := hm2.setKey rfl (a * 4 + 3) (.int .i64 3) L hlen HSET.out
  go_wp2
  refine bodyPost_end (v := .tuple #[]) (by simp [results, Tryz.results60, go_sem]) rfl ⟨rfl, ?_⟩
  first | exact ⟨o2, lv2, hm3, (frA.trans fr2).trans fr3⟩ | exact ⟨o2, ⟨lv2, hm3⟩, (frA.trans fr2).trans fr3⟩
end
end Go.Proofs.YtlafkpaljibonaaGreat

namespace Go.Proofs.YtlafkpaljibonaaGreat
open Go.RowKit

theorem infoRKey : (Tryz.prog.info? 99).map (fun i => (i.zero, i.size, i.bytes)) = some (some (.agg #[.int .i64 0, .int .i64 0, .string ⟨#[]⟩, .int .i64 0]), 4, 40) := by kernel_rfl
theorem rkeyCells_append (a b : List RKey) : rkeyCells (a ++ b) = rkeyCells a ++ rkeyCells b := by simp [rkeyCells]
theorem rkeyCells_one (l : List RKey) : ∀ u ∈ rkeyCells l, u.oneCell' = true := by
  intro u hu
  simp only [rkeyCells, List.mem_flatMap] at hu
  obtain ⟨r, _, hr⟩ := hu
  simp only [RKey.cells, List.mem_cons, List.not_mem_nil, or_false] at hr
  rcases hr with rfl | rfl | rfl | rfl <;> rfl
theorem news_rkey (W : World) (g : Nat) (hg : W.heap.size = g) (r : RKey) (T : TypeId) : ∀ j u, (rkeyCells [r])[j]? = some u → (W.alloc (.cells #[.int .i64 r.conn, .int .i64 r.id, .string r.body, .int .i64 r.is] T)).cell? ((⟨g, 0, none⟩ : Addr).add j) = some u := by
  subst hg
  exact World.news_of_block (heap_alloc_new W _)

section
variable {o : Nat → Tag} {q : Nat} {w : World} {b : Nat} {m : RM} {lv : Nat → Value} {kv qv : Value}

/-- One key more stands in the list. -/
theorem RMem.pushKey {w1 : World} (h : RMem o q w b m lv kv qv) (v : Value) (l : List RKey) (own : w1.ownsRow 0 99 4 v l.length (rkeyCells l))
    (hg : w.grownBy w1 kv.ownBlock) (hat : kv.ownBlock = v.ownBlock ∨ v.ownBlock = some w.heap.size) :
    ∃ o', RMem o' q (w1.setCell ⟨b, 54, none⟩ v) b { m with keys := l } lv v qv ∧ Fr q o w o' (w1.setCell ⟨b, 54, none⟩ v) := by
  have hbl := h.blk.lt
  have hlt := own.lt
  have hst := h.keys.2
  let o' : Nat → Tag := fun g => if v.ownBlock = some g then (q, 6) else o g
  have oold : ∀ g, g < w.heap.size → o' g = o g := by
    intro g hgl
    by_cases e : v.ownBlock = some g
    · simp only [o', if_pos e]
      rcases hat with h1 | h1
      · rw [← h1] at e; exact (hst g e).symm
      · rw [h1] at e; simp at e; omega
    · simp only [o', if_neg e]
  have hsz : (w1.setCell ⟨b, 54, none⟩ v).heap.size = w1.heap.size := by simp [World.setCell]
  have hcl : Clean o' (w1.setCell ⟨b, 54, none⟩ v) := by
    intro g hgl
    rw [hsz] at hgl
    have e : ¬ v.ownBlock = some g := by intro e; have := (hlt g e).2; omega
    simp only [o', if_neg e]
    exact h.clean g (Nat.le_trans hg.size hgl)
  have hnb : some b ≠ kv.ownBlock := by intro e; have := hst b e.symm; rw [h.tag] at this; simp at this
  have hoth : ∀ g, g < w.heap.size → g ≠ b → some g ≠ kv.ownBlock → (w1.setCell ⟨b, 54, none⟩ v).heap[g]? = w.heap[g]? := by
    intro g hgl hne hn2
    rw [Below.heap_setCell _ _ _ g hne]; exact hg.block g hgl hn2
  have hvb : ∀ g, v.ownBlock = some g → g ≠ b := by
    intro g e
    rcases hat with h1 | h1
    · rw [← h1] at e; rintro rfl; exact hnb e.symm
    · rw [h1] at e; simp at e; omega
  refine ⟨o', ⟨hcl, (oold b hbl).trans h.tag, ?_, fun j hj => ?_, ?_, ?_⟩, ⟨hg.os, hg.tape, hg.output, by rw [hsz]; exact hg.size, hcl, oold, fun g hgl hq => hoth g hgl ?_ ?_⟩⟩
  · have b1 : Blk w1 b _ _ := h.blk.keep (hg.block b hbl hnb)
    exact b1.set 54 v
  · refine (h.sent j hj).keep oold fun g hgl ht => hoth g hgl ?_ ?_
    · rintro rfl; rw [h.tag] at ht; simp at ht; omega
    · intro e2; have := hst g e2.symm; rw [ht] at this; simp at this; omega
  · exact ⟨own_keepAt own (fun g hgv => Below.heap_setCell _ _ _ g (hvb g hgv)) (Nat.le_refl _), fun g hgv => by simp only [o', if_pos hgv]⟩
  · refine h.queue.keep oold fun g hgl ht => hoth g hgl ?_ ?_
    · rintro rfl; rw [h.tag] at ht; simp at ht
    · intro e2; have := hst g e2.symm; rw [ht] at this; simp at this
  · rintro rfl; rw [h.tag] at hq; exact hq rfl
  · intro e2; have := hst g e2.symm; rw [this] at hq; exact hq rfl

/-- One place more stands in the queue. -/
theorem RMem.pushQueue {w1 : World} (h : RMem o q w b m lv kv qv) (v : Value) (l : List Nat) (own : w1.ownsRow 0 3 1 v l.length (numCells l))
    (hg : w.grownBy w1 qv.ownBlock) (hat : qv.ownBlock = v.ownBlock ∨ v.ownBlock = some w.heap.size) :
    ∃ o', RMem o' q (w1.setCell ⟨b, 55, none⟩ v) b { m with queue := l } lv kv v ∧ Fr q o w o' (w1.setCell ⟨b, 55, none⟩ v) := by
  have hbl := h.blk.lt
  have hlt := own.lt
  have hst := h.queue.2
  let o' : Nat → Tag := fun g => if v.ownBlock = some g then (q, 7) else o g
  have oold : ∀ g, g < w.heap.size → o' g = o g := by
    intro g hgl
    by_cases e : v.ownBlock = some g
    · simp only [o', if_pos e]
      rcases hat with h1 | h1
      · rw [← h1] at e; exact (hst g e).symm
      · rw [h1] at e; simp at e; omega
    · simp only [o', if_neg e]
  have hsz : (w1.setCell ⟨b, 55, none⟩ v).heap.size = w1.heap.size := by simp [World.setCell]
  have hcl : Clean o' (w1.setCell ⟨b, 55, none⟩ v) := by
    intro g hgl
    rw [hsz] at hgl
    have e : ¬ v.ownBlock = some g := by intro e; have := (hlt g e).2; omega
    simp only [o', if_neg e]
    exact h.clean g (Nat.le_trans hg.size hgl)
  have hnb : some b ≠ qv.ownBlock := by intro e; have := hst b e.symm; rw [h.tag] at this; simp at this
  have hoth : ∀ g, g < w.heap.size → g ≠ b → some g ≠ qv.ownBlock → (w1.setCell ⟨b, 55, none⟩ v).heap[g]? = w.heap[g]? := by
    intro g hgl hne hn2
    rw [Below.heap_setCell _ _ _ g hne]; exact hg.block g hgl hn2
  have hvb : ∀ g, v.ownBlock = some g → g ≠ b := by
    intro g e
    rcases hat with h1 | h1
    · rw [← h1] at e; rintro rfl; exact hnb e.symm
    · rw [h1] at e; simp at e; omega
  refine ⟨o', ⟨hcl, (oold b hbl).trans h.tag, ?_, fun j hj => ?_, ?_, ?_⟩, ⟨hg.os, hg.tape, hg.output, by rw [hsz]; exact hg.size, hcl, oold, fun g hgl hq => hoth g hgl ?_ ?_⟩⟩
  · have b1 : Blk w1 b _ _ := h.blk.keep (hg.block b hbl hnb)
    exact b1.set 55 v
  · refine (h.sent j hj).keep oold fun g hgl ht => hoth g hgl ?_ ?_
    · rintro rfl; rw [h.tag] at ht; simp at ht; omega
    · intro e2; have := hst g e2.symm; rw [ht] at this; simp at this; omega
  · refine h.keys.keep oold fun g hgl ht => hoth g hgl ?_ ?_
    · rintro rfl; rw [h.tag] at ht; simp at ht
    · intro e2; have := hst g e2.symm; rw [ht] at this; simp at this
  · exact ⟨own_keepAt own (fun g hgv => Below.heap_setCell _ _ _ g (hvb g hgv)) (Nat.le_refl _), fun g hgv => by simp only [o', if_pos hgv]⟩
  · rintro rfl; rw [h.tag] at hq; exact hq rfl
  · intro e2; have := hst g e2.symm; rw [this] at hq; exact hq rfl

end
end Go.Proofs.YtlafkpaljibonaaGreat
