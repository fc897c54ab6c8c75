import Derived.Test.YtmjnengplfoiiaaGreatJ6
import Derived.Test.YtmjnengplfoiiaaGreatJ4
namespace Go.Proofs.YtmjnengplfoiiaaGreat
open Go.RowKit

section
variable {P : Program} {ops : Array Oper} {Q : Exit → Act → World → Prop} {md : Region.Mode} {S : World → Prop}
/-- Two operations may come up now: each order is walked. -/
theorem two_at {i j : Nat} {oi oj : Oper} {tl tj : List Oper} {fuel : Nat} {listed : Array Bool} {a : Act} {w : World} (hi : ops.toList.drop i = oi :: tl) (hj : ops.toList.drop j = oj :: tj)
    (hr : Region.ready md ops listed = [i, j]) (hwi : Region.wanted oi (yielded ops a.tmps) = true) (hwj : Region.wanted oj (yielded ops a.tmps) = true)
    (h1 : ∀ K' : Act → World → Prop, Shut (∀ a w, S w → wpAnyH P md ops Q S fuel (listed.setIfInBounds i true) a w → K' a w) → Oper.wp P oi a w K' Q)
    (h2 : ∀ K' : Act → World → Prop, Shut (∀ a w, S w → wpAnyH P md ops Q S fuel (listed.setIfInBounds j true) a w → K' a w) → Oper.wp P oj a w K' Q) :
    wpAnyH P md ops Q S (fuel + 1) listed a w := by
  refine wpAnyH_ready hr (by simp) (AllReadyH.cons (at_of_drop hi) (fun K' hK => ?_) (AllReadyH.cons (at_of_drop hj) (fun K' hK => ?_) AllReadyH.nil))
  · rw [if_pos hwi]
    exact h1 K' (fun a w hS hW => hK.out a w hS (fun _ => hW))
  · rw [if_pos hwj]
    exact h2 K' (fun a w hS hW => hK.out a w hS (fun _ => hW))
end

section
variable {o : Nat → Tag} {q : Nat} {w : World} {b : Nat} {m : PM} {sv : Nat → Value} {rv : Value}

/-- One request more stands in the list. -/
theorem FMem.pushReq {w1 : World} (h : FMem o q w b m sv rv) (v : Value) (l : List Req) (own : w1.ownsRow 0 105 4 v l.length (reqCells l))
    (hg : w.grownBy w1 rv.ownBlock) (hat : rv.ownBlock = v.ownBlock ∨ v.ownBlock = some w.heap.size) :
    ∃ o', FMem o' q (w1.setCell ⟨b, 20, none⟩ v) b { m with req := l } sv v ∧ Fr q o w o' (w1.setCell ⟨b, 20, none⟩ v) := by
  have hbl := h.blk.lt
  have hlt := own.lt
  have hst := h.reqs.2
  let o' : Nat → Tag := fun g => if v.ownBlock = some g then (q, 6) else o g
  have oold : ∀ g, g < w.heap.size → o' g = o g := by
    intro g hgl
    by_cases e : v.ownBlock = some g
    · simp only [o', if_pos e]
      rcases hat with h1 | h1
      · rw [← h1] at e; exact (hst g e).symm
      · rw [h1] at e; simp at e; omega
    · simp only [o', if_neg e]
  have hsz : (w1.setCell ⟨b, 20, none⟩ v).heap.size = w1.heap.size := by simp [World.setCell]
  have hcl : Clean o' (w1.setCell ⟨b, 20, none⟩ v) := by
    intro g hgl
    rw [hsz] at hgl
    have e : ¬ v.ownBlock = some g := by intro e; have := (hlt g e).2; omega
    simp only [o', if_neg e]
    exact h.clean g (Nat.le_trans hg.size hgl)
  have hnb : some b ≠ rv.ownBlock := by intro e; have := hst b e.symm; rw [h.tag] at this; simp at this
  have hoth : ∀ g, g < w.heap.size → g ≠ b → some g ≠ rv.ownBlock → (w1.setCell ⟨b, 20, none⟩ v).heap[g]? = w.heap[g]? := by
    intro g hgl hne hn2
    rw [Below.heap_setCell _ _ _ g hne]; exact hg.block g hgl hn2
  have hvb : ∀ g, v.ownBlock = some g → g ≠ b := by
    intro g e
    rcases hat with h1 | h1
    · rw [← h1] at e; rintro rfl; exact hnb e.symm
    · rw [h1] at e; simp at e; omega
  refine ⟨o', ⟨hcl, (oold b hbl).trans h.tag, ?_, fun j hj => ?_, ?_⟩, ⟨hg.os, hg.tape, hg.output, by rw [hsz]; exact hg.size, hcl, oold, fun g hgl hq => hoth g hgl ?_ ?_⟩⟩
  · have b1 : Blk w1 b _ _ := h.blk.keep (hg.block b hbl hnb)
    exact b1.set 20 v
  · refine (h.sent j hj).keep oold fun g hgl ht => hoth g hgl ?_ ?_
    · rintro rfl; rw [h.tag] at ht; simp at ht; omega
    · intro e2; have := hst g e2.symm; rw [ht] at this; simp at this; omega
  · exact ⟨own_keepAt own (fun g hgv => Below.heap_setCell _ _ _ g (hvb g hgv)) (Nat.le_refl _), fun g hgv => by simp only [o', if_pos hgv]⟩
  · rintro rfl; rw [h.tag] at hq; exact hq rfl
  · intro e2; have := hst g e2.symm; rw [this] at hq; exact hq rfl

def newReq (c i : Int) : Req := ⟨c, i, 0, ⟨#[]⟩⟩
def PM.begin_ (m : PM) (k : Nat) (i : Int) (role : ByteArray) : PM :=
  cond (role.toList == [1]) (cond (decide ((m.keysOf k).length ≥ 4)) (m.endKey k i 2) { m with req := m.req ++ [newReq k i] }) (m.endKey k i 3)

set_option maxRecDepth 100000 in
set_option maxHeartbeats 4000000 in
theorem begin_any (h : FMem o q w b m sv rv) (hq : q ≠ 0) (k : Nat) (hk : k < 4) (i : Int) (role : ByteArray) (hs : (m.con k).sent.length ≤ 1000000000000) (hmax : m.req.length ≤ 100000000000) :
    Calls Tryz.prog 110 #[.pointer (some ⟨b, 0, none⟩), .agg #[.int .i64 k, .int .i64 i], .string role] w fun r w' => r = .returned (.tuple #[]) ∧ ∃ o' sv' rv', FMem o' q w' b (m.begin_ k i role) sv' rv' ∧ Fr q o w o' w' := by
  obtain ⟨i0, hi, hz0, hz1, hz2⟩ := info_parts infoReq
  unfold PM.begin_
  have x0 := Blk.made w 88 [.int .i64 k, .int .i64 i]
  have hb0 : Below w.heap.size w (w.alloc (.cells #[.int .i64 k, .int .i64 i] 88)) := (Below.refl _ _).alloc (Nat.le_refl _) _
  have hA := h.below hb0
  have frA := Fr.of_below (q := q) h.clean hb0
  have hkey : o w.heap.size = (0, 0) := h.clean _ (Nat.le_refl _)
  cases hrole : (role.toList == [1])
  rotate_left
  · simp only [cond_true]
    have kk : Hid (∀ w', FMem o q w' b m sv rv → Calls Tryz.prog 92 #[.pointer (some ⟨b, 0, none⟩), .int .i64 k] w' fun r w'' => ∃ v, r = .returned v ∧ w''.ownsRow w'.heap.size 88 2 v (m.keysOf k).length (keyCells (m.keysOf k)) ∧ Below w'.heap.size w' w'') := fun w' h' => keysOf_any h' k (by omega)
    generalize hL : m.keysOf k = L at *
    clear hL
    by_cases h4 : L.length ≥ 4
    · simp only [h4, decide_true, cond_true]
      go_enter Tryz.func110, Tryz.ntmps110
      go_wp2_with fail
      refine (kk.out _ hA).mono ?_
      rintro e w1 ⟨v, rfl, own, hb1⟩
      obtain ⟨av, cv, hv, hln, -⟩ := own_slice own
      subst hv
      have hm1 := hA.below hb1
      have x1 := x0.below hb1
      have y0 := x1.cell (k := 0) (u := .int .i64 k) rfl
      have y1 := x1.cell (k := 1) (u := .int .i64 i) rfl
      have fr1 := frA.below hb1
      clear own kk
      go_wp2_with fail
      refine (end_any hm1 hq k hk i 2 (by omega) (by omega) hs (by omega)).mono ?_
      rintro e w2 ⟨rfl, o2, sv2, rv2, hm2, fr2⟩
      go_wp2
      exact bodyPost_ret (v := .tuple #[]) (by simp [results, Tryz.results110, go_sem]) rfl ⟨rfl, o2, sv2, rv2, hm2, fr1.trans fr2⟩
    · simp only [h4, decide_false, cond_false]
      go_enter Tryz.func110, Tryz.ntmps110
      go_wp2_with fail
      refine (kk.out _ hA).mono ?_
      rintro e w1 ⟨v, rfl, own, hb1⟩
      obtain ⟨av, cv, hv, hln, -⟩ := own_slice own
      subst hv
      have hm1 := hA.below hb1
      have x1 := x0.below hb1
      have y0 := x1.cell (k := 0) (u := .int .i64 k) rfl
      have y1 := x1.cell (k := 1) (u := .int .i64 i) rfl
      have fr1 := frA.below hb1
      have hlt1 := x1.lt
      clear own kk hA frA hb0 x0 hb1
      go_wp2_with fail
      have hmd := hm1.below (Below.refl _ _).drew
      have frd := fr1.below (Below.refl _ _).drew
      have y2 := hmd.reqv
      have hform := hmd.reqs.form
      obtain ⟨ar, cr, hrv, -, -⟩ := hform
      have hrown := hmd.reqs.1
      have hrlt := hrown.lt
      subst hrv
      have hbn : b ≠ w.heap.size := by have := h.blk.lt; omega
      refine wp_region_noPanic ?_
      refine wp_region_held_drew (S := fun w' => w'.cell? ⟨w.heap.size, 0, none⟩ = some (.int .i64 k) ∧ w'.cell? ⟨w.heap.size, 1, none⟩ = some (.int .i64 i)) (by kernel_rfl) ⟨y0, y1⟩ (fun hHeld => ?_)
      refine take_at (i := 0) (v := ?_) rfl (by kernel_rfl) (by kernel_rfl) (by kernel_rfl) (fun _ _ _ h => h) (by rfl) ?_ (by assumption) ?_
      rotate_left
      · (intro wx hSw; obtain ⟨x0, x1⟩ := hSw; go_simp; with_reducible rfl)
      simp only [Act.put, List.setIfInBounds_toArray, List.set_cons_zero, List.set_cons_succ]
      refine take_at (i := 1) (v := ?_) rfl (by kernel_rfl) (by kernel_rfl) (by kernel_rfl) (fun _ _ _ h => h) (by rfl) ?_ (by assumption) ?_
      rotate_left
      · (intro wx hSw; obtain ⟨x0, x1⟩ := hSw; go_simp; with_reducible rfl)
      simp only [Act.put, List.setIfInBounds_toArray, List.set_cons_zero, List.set_cons_succ]
      refine take_at (i := 2) (v := ?_) rfl (by kernel_rfl) (by kernel_rfl) (by kernel_rfl) (fun _ _ _ h => h) (by rfl) ?_ (by assumption) ?_
      rotate_left
      · (intro wx hSw; obtain ⟨x0, x1⟩ := hSw; go_simp; with_reducible rfl)
      simp only [Act.put, List.setIfInBounds_toArray, List.set_cons_zero, List.set_cons_succ]
      refine take_at (i := 3) (v := ?_) rfl (by kernel_rfl) (by kernel_rfl) (by kernel_rfl) (fun _ _ _ h => h) (by rfl) ?_ (by assumption) ?_
      rotate_left
      · (intro wx hSw; obtain ⟨x0, x1⟩ := hSw; go_simp; with_reducible rfl)
      simp only [Act.put, List.setIfInBounds_toArray, List.set_cons_zero, List.set_cons_succ]
      refine take_at (i := 5) (v := ?_) rfl (by kernel_rfl) (by kernel_rfl) (by kernel_rfl) (fun _ _ _ h => h) (by rfl) ?_ (by assumption) ?_
      rotate_left
      · (intro wx hSw; obtain ⟨x0, x1⟩ := hSw; go_simp; with_reducible rfl)
      simp only [Act.put, List.setIfInBounds_toArray, List.set_cons_zero, List.set_cons_succ]
      refine take_at (i := 6) (v := ?_) rfl (by kernel_rfl) (by kernel_rfl) (by kernel_rfl) (fun _ _ _ h => h) (by rfl) ?_ (by assumption) ?_
      rotate_left
      · (intro wx hSw; obtain ⟨x0, x1⟩ := hSw; go_simp; with_reducible rfl)
      simp only [Act.put, List.setIfInBounds_toArray, List.set_cons_zero, List.set_cons_succ]
      have xA := (x1.below (Below.refl _ _).drew).below ((Below.refl _ _).alloc (Nat.le_refl _) (.cells #[.int .i64 k, .int .i64 i, .int .i64 0, .string ⟨#[]⟩] 105))
      have hSA : (w1.drew.alloc (.cells #[.int .i64 k, .int .i64 i, .int .i64 0, .string ⟨#[]⟩] 105)).cell? ⟨w.heap.size, 0, none⟩ = some (.int .i64 k) ∧ (w1.drew.alloc (.cells #[.int .i64 k, .int .i64 i, .int .i64 0, .string ⟨#[]⟩] 105)).cell? ⟨w.heap.size, 1, none⟩ = some (.int .i64 i) := ⟨xA.cell rfl, xA.cell rfl⟩
      refine two_at (i := 4) (j := 7) rfl rfl (by kernel_rfl) (by rfl) (by rfl) (fun K hK => ?_) (fun K hK => ?_)
      · go_simp
        refine hK.out _ _ ⟨y0, y1⟩ ?_
        clear hK K
        try simp only [Act.put, List.setIfInBounds_toArray, List.set_cons_zero, List.set_cons_succ]
        refine only_at (i := 7) rfl (by kernel_rfl) (by rfl) (fun K hK => ?_)
        go_simp
        refine hK.out _ _ hSA ?_
        clear hK K
        refine only_at (i := 8) rfl (by kernel_rfl) (by rfl) (fun K hK => ?_)
        refine wp_append_lies _ _ _ 56 rfl 0 105 i0 (.agg #[.int .i64 0, .int .i64 0, .int .i64 0, .string ⟨#[]⟩]) 4 40 Tryz.underlying56 hi hz0 hz1 hz2 rfl (by omega) (.slice ar m.req.length cr) m.req.length (reqCells m.req) rfl (hrown.alloc _) ⟨w1.heap.size, 0, none⟩ 1 1 (reqCells [newReq k i]) rfl rfl ?_ (reqCells_one _) (by omega) (by unfold maxLen; omega) (by omega) (Nat.zero_le _) _ rfl ?_
        · exact news_req w1.drew _ rfl (newReq k i) _
        intro g3 c3 w3 own3 hg3 hat3 hlt3
        have hmA := hmd.alloc (.cells #[.int .i64 k, .int .i64 i, .int .i64 0, .string ⟨#[]⟩] 105)
        have frB : Fr q o w o (w1.drew.alloc (.cells #[.int .i64 k, .int .i64 i, .int .i64 0, .string ⟨#[]⟩] 105)) := frd.below ((Below.refl _ _).alloc (Nat.le_refl _) _)
        have own3' : w3.ownsRow 0 105 4 (.slice (some ⟨g3, 0, none⟩) (m.req.length + 1) c3) (m.req ++ [newReq k i]).length (reqCells (m.req ++ [newReq k i])) := by
          rw [reqCells_append, List.length_append]; exact own3
        have hat3' : (Value.slice ar m.req.length cr).ownBlock = (Value.slice (some ⟨g3, 0, none⟩) (m.req.length + 1) c3).ownBlock ∨ (Value.slice (some ⟨g3, 0, none⟩) (m.req.length + 1) c3).ownBlock = some (w1.drew.alloc (.cells #[.int .i64 k, .int .i64 i, .int .i64 0, .string ⟨#[]⟩] 105)).heap.size := by
          rcases hat3 with e | e
          · exact .inl e
          · right; rw [e]; rfl
        obtain ⟨o4, hm4, fr4⟩ := hmA.pushReq _ _ own3' hg3 hat3'
        have hnr : some w.heap.size ≠ (Value.slice ar m.req.length cr).ownBlock := by
          intro e
          have := hmd.reqs.2 _ e.symm
          rw [hkey] at this
          exact hq (congrArg Prod.fst this).symm
        have x3 : Blk w3 w.heap.size 88 [.int .i64 k, .int .i64 i] := x1.keep ((hg3.block _ (by simp; omega) hnr).trans (Below.heap_alloc _ _ _ hlt1))
        have nb : some b ≠ (Value.slice ar m.req.length cr).ownBlock := by
          intro e
          have := hmd.reqs.2 _ e.symm
          rw [hmd.tag] at this
          simp at this
        have b3 : Blk w3 b _ _ := hmA.blk.keep (hg3.block b hmA.blk.lt nb)
        have z2 := b3.cell (k := 20) (u := .slice ar m.req.length cr) rfl
        have fz := b3.frozen
        have hS3 : w3.cell? ⟨w.heap.size, 0, none⟩ = some (.int .i64 k) ∧ w3.cell? ⟨w.heap.size, 1, none⟩ = some (.int .i64 i) := ⟨x3.cell rfl, x3.cell rfl⟩
        refine hK.out _ _ hS3 ?_
        clear hK K
        try simp only [Act.put, List.setIfInBounds_toArray, List.set_cons_zero, List.set_cons_succ]
        refine take_at (i := 9) (v := ?_) rfl (by kernel_rfl) (by kernel_rfl) (by kernel_rfl) (fun _ _ _ h => h) (by rfl) ?_ (by assumption) ?_
        rotate_left
        · (intro wx hSw; obtain ⟨x0, x1⟩ := hSw; go_simp; with_reducible rfl)
        simp only [Act.put, List.setIfInBounds_toArray, List.set_cons_zero, List.set_cons_succ]
        refine take_at (i := 10) (v := ?_) rfl (by kernel_rfl) (by kernel_rfl) (by kernel_rfl) (fun _ _ _ h => h) (by rfl) ?_ (by assumption) ?_
        rotate_left
        · (intro wx hSw; obtain ⟨x0, x1⟩ := hSw; go_simp; with_reducible rfl)
        simp only [Act.put, List.setIfInBounds_toArray, List.set_cons_zero, List.set_cons_succ]
        refine only_at (i := 11) rfl (by kernel_rfl) (by rfl) (fun K hK => ?_)
        go_simp
        have x4 := x3.keep (w' := w3.setCell ⟨b, 20, none⟩ (.slice (some ⟨g3, 0, none⟩) (m.req.length + 1) c3)) (Below.heap_setCell _ _ _ _ (by simpa using hbn.symm))
        refine hK.out _ _ ⟨x4.cell rfl, x4.cell rfl⟩ ?_
        clear hK K
        refine wpAnyH_done (by kernel_rfl) ?_ _
        refine NoPanic.normal ?_
        go_wp2
        exact bodyPost_end (v := .tuple #[]) (by simp [results, Tryz.results110, go_sem]) rfl ⟨rfl, o4, sv, _, hm4, frB.trans fr4⟩
      · go_simp
        refine hK.out _ _ hSA ?_
        clear hK K
        try simp only [Act.put, List.setIfInBounds_toArray, List.set_cons_zero, List.set_cons_succ]
        have y2a := fun ob => (hm1.alloc ob).reqv
        refine only_at (i := 4) rfl (by kernel_rfl) (by rfl) (fun K hK => ?_)
        go_simp
        refine hK.out _ _ hSA ?_
        clear hK K
        refine only_at (i := 8) rfl (by kernel_rfl) (by rfl) (fun K hK => ?_)
        refine wp_append_lies _ _ _ 56 rfl 0 105 i0 (.agg #[.int .i64 0, .int .i64 0, .int .i64 0, .string ⟨#[]⟩]) 4 40 Tryz.underlying56 hi hz0 hz1 hz2 rfl (by omega) (.slice ar m.req.length cr) m.req.length (reqCells m.req) rfl (hrown.alloc _) ⟨w1.heap.size, 0, none⟩ 1 1 (reqCells [newReq k i]) rfl rfl ?_ (reqCells_one _) (by omega) (by unfold maxLen; omega) (by omega) (Nat.zero_le _) _ rfl ?_
        · exact news_req w1.drew _ rfl (newReq k i) _
        intro g3 c3 w3 own3 hg3 hat3 hlt3
        have hmA := hmd.alloc (.cells #[.int .i64 k, .int .i64 i, .int .i64 0, .string ⟨#[]⟩] 105)
        have frB : Fr q o w o (w1.drew.alloc (.cells #[.int .i64 k, .int .i64 i, .int .i64 0, .string ⟨#[]⟩] 105)) := frd.below ((Below.refl _ _).alloc (Nat.le_refl _) _)
        have own3' : w3.ownsRow 0 105 4 (.slice (some ⟨g3, 0, none⟩) (m.req.length + 1) c3) (m.req ++ [newReq k i]).length (reqCells (m.req ++ [newReq k i])) := by
          rw [reqCells_append, List.length_append]; exact own3
        have hat3' : (Value.slice ar m.req.length cr).ownBlock = (Value.slice (some ⟨g3, 0, none⟩) (m.req.length + 1) c3).ownBlock ∨ (Value.slice (some ⟨g3, 0, none⟩) (m.req.length + 1) c3).ownBlock = some (w1.drew.alloc (.cells #[.int .i64 k, .int .i64 i, .int .i64 0, .string ⟨#[]⟩] 105)).heap.size := by
          rcases hat3 with e | e
          · exact .inl e
          · right; rw [e]; rfl
        obtain ⟨o4, hm4, fr4⟩ := hmA.pushReq _ _ own3' hg3 hat3'
        have hnr : some w.heap.size ≠ (Value.slice ar m.req.length cr).ownBlock := by
          intro e
          have := hmd.reqs.2 _ e.symm
          rw [hkey] at this
          exact hq (congrArg Prod.fst this).symm
        have x3 : Blk w3 w.heap.size 88 [.int .i64 k, .int .i64 i] := x1.keep ((hg3.block _ (by simp; omega) hnr).trans (Below.heap_alloc _ _ _ hlt1))
        have nb : some b ≠ (Value.slice ar m.req.length cr).ownBlock := by
          intro e
          have := hmd.reqs.2 _ e.symm
          rw [hmd.tag] at this
          simp at this
        have b3 : Blk w3 b _ _ := hmA.blk.keep (hg3.block b hmA.blk.lt nb)
        have z2 := b3.cell (k := 20) (u := .slice ar m.req.length cr) rfl
        have fz := b3.frozen
        have hS3 : w3.cell? ⟨w.heap.size, 0, none⟩ = some (.int .i64 k) ∧ w3.cell? ⟨w.heap.size, 1, none⟩ = some (.int .i64 i) := ⟨x3.cell rfl, x3.cell rfl⟩
        refine hK.out _ _ hS3 ?_
        clear hK K
        try simp only [Act.put, List.setIfInBounds_toArray, List.set_cons_zero, List.set_cons_succ]
        refine take_at (i := 9) (v := ?_) rfl (by kernel_rfl) (by kernel_rfl) (by kernel_rfl) (fun _ _ _ h => h) (by rfl) ?_ (by assumption) ?_
        rotate_left
        · (intro wx hSw; obtain ⟨x0, x1⟩ := hSw; go_simp; with_reducible rfl)
        simp only [Act.put, List.setIfInBounds_toArray, List.set_cons_zero, List.set_cons_succ]
        refine take_at (i := 10) (v := ?_) rfl (by kernel_rfl) (by kernel_rfl) (by kernel_rfl) (fun _ _ _ h => h) (by rfl) ?_ (by assumption) ?_
        rotate_left
        · (intro wx hSw; obtain ⟨x0, x1⟩ := hSw; go_simp; with_reducible rfl)
        simp only [Act.put, List.setIfInBounds_toArray, List.set_cons_zero, List.set_cons_succ]
        refine only_at (i := 11) rfl (by kernel_rfl) (by rfl) (fun K hK => ?_)
        go_simp
        have x4 := x3.keep (w' := w3.setCell ⟨b, 20, none⟩ (.slice (some ⟨g3, 0, none⟩) (m.req.length + 1) c3)) (Below.heap_setCell _ _ _ _ (by simpa using hbn.symm))
        refine hK.out _ _ ⟨x4.cell rfl, x4.cell rfl⟩ ?_
        clear hK K
        refine wpAnyH_done (by kernel_rfl) ?_ _
        refine NoPanic.normal ?_
        go_wp2
        exact bodyPost_end (v := .tuple #[]) (by simp [results, Tryz.results110, go_sem]) rfl ⟨rfl, o4, sv, _, hm4, frB.trans fr4⟩
  · simp only [cond_false]
    have y0 := x0.cell (k := 0) (u := .int .i64 k) rfl
    have y1 := x0.cell (k := 1) (u := .int .i64 i) rfl
    go_enter Tryz.func110, Tryz.ntmps110
    go_wp2_with fail
    refine (end_any hA hq k hk i 3 (by omega) (by omega) hs (by omega)).mono ?_
    rintro e w2 ⟨rfl, o2, sv2, rv2, hm2, fr2⟩
    go_wp2
    exact bodyPost_ret (v := .tuple #[]) (by simp [results, Tryz.results110, go_sem]) rfl ⟨rfl, o2, sv2, rv2, hm2, frA.trans fr2⟩

end
end Go.Proofs.YtmjnengplfoiiaaGreat

namespace Go.Proofs.YtmjnengplfoiiaaGreat
open Go.RowKit

def RM.send (m : RM) (k : Nat) (r : Rec) : RM := { m with line := upd m.line k { m.line k with sent := (m.line k).sent ++ [r] } }

section
variable {o : Nat → Tag} {q : Nat} {w : World} {b : Nat} {m : RM} {lv : Nat → Value} {kv qv : Value}

theorem wcells_send (m : RM) (lv : Nat → Value) (kv qv v : Value) (k : Nat) (hk : k < 4) (r : Rec) :
    (wcells m lv kv qv).set (8 + k * 4 + 3) v = wcells (m.send k r) (upd lv k v) kv qv := by
  rcases k with _ | _ | _ | _ | k <;> first | rfl | omega

/-- What was sent over a connection is longer from now on. -/
theorem RMem.newSent {w1 : World} {k : Nat} (h : RMem o q w b m lv kv qv) (hk : k < 4) (s : Rec) (v : Value) (own : w1.ownsRow 0 101 3 v ((m.line k).sent.length + 1) (rowOf (m.line k).sent ++ rcells s))
    (hg : w.grownBy w1 (lv k).ownBlock) (hat : v.ownBlock = (lv k).ownBlock ∨ v.ownBlock = some w.heap.size) :
    ∃ o', RMem o' q (w1.setCell ⟨b, 8 + k * 4 + 3, none⟩ v) b (m.send k s) (upd lv k v) kv qv ∧ Fr q o w o' (w1.setCell ⟨b, 8 + k * 4 + 3, none⟩ v) := by
  have hbl := h.blk.lt
  have hlt := own.lt
  have hsl := (h.sent k hk).1.lt
  have hst := (h.sent k hk).2
  let o' : Nat → Tag := fun g => if v.ownBlock = some g then (q, 2 + k) else o g
  have oold : ∀ g, g < w.heap.size → o' g = o g := by
    intro g hgl
    by_cases e : v.ownBlock = some g
    · simp only [o', if_pos e]
      rcases hat with h1 | h1
      · rw [h1] at e; exact (hst g e).symm
      · rw [h1] at e; simp at e; omega
    · simp only [o', if_neg e]
  have hsz : (w1.setCell ⟨b, 8 + k * 4 + 3, none⟩ v).heap.size = w1.heap.size := by simp [World.setCell]
  have hcl : Clean o' (w1.setCell ⟨b, 8 + k * 4 + 3, none⟩ v) := by
    intro g hgl
    rw [hsz] at hgl
    have e : ¬ v.ownBlock = some g := by intro e; have := (hlt g e).2; omega
    simp only [o', if_neg e]
    exact h.clean g (Nat.le_trans hg.size hgl)
  have hnb : some b ≠ (lv k).ownBlock := by intro e; have := hst b e.symm; rw [h.tag] at this; simp at this; omega
  have hoth : ∀ g, g < w.heap.size → g ≠ b → some g ≠ (lv k).ownBlock → (w1.setCell ⟨b, 8 + k * 4 + 3, none⟩ v).heap[g]? = w.heap[g]? := by
    intro g hgl hne hn2
    rw [Below.heap_setCell _ _ _ g hne]; exact hg.block g hgl hn2
  have hvb : ∀ g, v.ownBlock = some g → g ≠ b := by
    intro g e
    rcases hat with h1 | h1
    · rw [h1] at e; rintro rfl; exact hnb e.symm
    · rw [h1] at e; simp at e; omega
  refine ⟨o', ⟨hcl, (oold b hbl).trans h.tag, ?_, fun j hj => ?_, ?_, ?_⟩, ⟨hg.os, hg.tape, hg.output, by rw [hsz]; exact hg.size, hcl, oold, fun g hgl hq => hoth g hgl ?_ ?_⟩⟩
  · have b1 : Blk w1 b _ _ := h.blk.keep (hg.block b hbl hnb)
    have := b1.set (8 + k * 4 + 3) v
    rw [wcells_send m lv kv qv v k hk s] at this
    exact this
  · by_cases e : j = k
    · subst e
      simp only [RM.send, upd_same]
      refine ⟨?_, fun g hgv => by simp only [o', if_pos hgv]⟩
      have own2 := own_keepAt own (w' := w1.setCell ⟨b, 8 + j * 4 + 3, none⟩ v) (fun g hgv => Below.heap_setCell _ _ _ g (hvb g hgv)) (Nat.le_refl _)
      rw [List.length_append, rowOf_append, rowOf_one]
      exact own2
    · simp only [RM.send, upd_other _ _ e]
      refine (h.sent j hj).keep oold fun g hgl ht => hoth g hgl ?_ ?_
      · rintro rfl; rw [h.tag] at ht; simp at ht; omega
      · intro e2; have := hst g e2.symm; rw [ht] at this; simp at this; omega
  · refine h.keys.keep oold fun g hgl ht => hoth g hgl ?_ ?_
    · rintro rfl; rw [h.tag] at ht; simp at ht
    · intro e2; have := hst g e2.symm; rw [ht] at this; simp at this; omega
  · refine h.queue.keep oold fun g hgl ht => hoth g hgl ?_ ?_
    · rintro rfl; rw [h.tag] at ht; simp at ht
    · intro e2; have := hst g e2.symm; rw [ht] at this; simp at this; omega
  · rintro rfl; rw [h.tag] at hq; exact hq rfl
  · intro e2; have := hst g e2.symm; rw [this] at hq; exact hq rfl

set_option maxRecDepth 100000 in
set_option maxHeartbeats 2000000 in
theorem rSend_any (h : RMem o q w b m lv kv qv) (n : Nat) (hn : n < 4) (k i : Int) (c : ByteArray) (hmax : (m.line n).sent.length ≤ 1000000000000) :
    Calls Tryz.prog 85 #[.pointer (some ⟨b, 0, none⟩), .int .i64 n, .int .i64 k, .int .i64 i, .string c] w fun r w' => r = .returned (.tuple #[]) ∧ ∃ o' lv', RMem o' q w' b (m.send n (k, i, c)) lv' kv qv ∧ Fr q o w o' w' := by
  obtain ⟨i0, hi, hz0, hz1, hz2⟩ := info_parts info23
  have hmd := h.below (Below.refl _ _).drew
  obtain ⟨-, -, -, c3⟩ := hmd.linec hn
  have hform := (hmd.sent n hn).form
  obtain ⟨asv, csv, hsv, -, -⟩ := hform
  have hrown := (hmd.sent n hn).1
  rw [hsv] at c3 hrown
  have hnI : (n : Int) < 4 := by omega
  go_enter Tryz.func85, Tryz.ntmps85
  go_wp2_with fail
  refine wp_region_noPanic ?_
  refine wp_region_held_drew (S := fun _ => True) (by kernel_rfl) trivial (fun hHeld => ?_)
  refine take_at (i := 0) (v := ?_) rfl (by kernel_rfl) (by kernel_rfl) (by kernel_rfl) (fun _ _ _ h => h) (by rfl) ?_ trivial ?_
  rotate_left
  · (intro wx _; go_simp; with_reducible rfl)
  simp only [Act.put, List.setIfInBounds_toArray, List.set_cons_zero, List.set_cons_succ]
  refine take_at (i := 1) (v := ?_) rfl (by kernel_rfl) (by kernel_rfl) (by kernel_rfl) (fun _ _ _ h => h) (by rfl) ?_ trivial ?_
  rotate_left
  · (intro wx _; go_simp; with_reducible rfl)
  simp only [Act.put, List.setIfInBounds_toArray, List.set_cons_zero, List.set_cons_succ]
  refine take_at (i := 2) (v := ?_) rfl (by kernel_rfl) (by kernel_rfl) (by kernel_rfl) (fun _ _ _ h => h) (by rfl) ?_ trivial ?_
  rotate_left
  · (intro wx _; go_simp; with_reducible rfl)
  simp only [Act.put, List.setIfInBounds_toArray, List.set_cons_zero, List.set_cons_succ]
  refine take_at (i := 3) (v := ?_) rfl (by kernel_rfl) (by kernel_rfl) (by kernel_rfl) (fun _ _ _ h => h) (by rfl) ?_ trivial ?_
  rotate_left
  · (intro wx _; go_simp; with_reducible rfl)
  simp only [Act.put, List.setIfInBounds_toArray, List.set_cons_zero, List.set_cons_succ]
  refine take_at (i := 4) (v := ?_) rfl (by kernel_rfl) (by kernel_rfl) (by kernel_rfl) (fun _ _ _ h => h) (by rfl) ?_ trivial ?_
  rotate_left
  · (intro wx _; go_simp; with_reducible rfl)
  simp only [Act.put, List.setIfInBounds_toArray, List.set_cons_zero, List.set_cons_succ]
  refine take_at (i := 5) (v := ?_) rfl (by kernel_rfl) (by kernel_rfl) (by kernel_rfl) (fun _ _ _ h => h) (by rfl) ?_ trivial ?_
  rotate_left
  · (intro wx _; go_simp; with_reducible rfl)
  simp only [Act.put, List.setIfInBounds_toArray, List.set_cons_zero, List.set_cons_succ]
  refine take_at (i := 6) (v := ?_) rfl (by kernel_rfl) (by kernel_rfl) (by kernel_rfl) (fun _ _ _ h => h) (by rfl) ?_ trivial ?_
  rotate_left
  · (intro wx _; go_simp; with_reducible rfl)
  simp only [Act.put, List.setIfInBounds_toArray, List.set_cons_zero, List.set_cons_succ]
  refine take_at (i := 7) (v := ?_) rfl (by kernel_rfl) (by kernel_rfl) (by kernel_rfl) (fun _ _ _ h => h) (by rfl) ?_ trivial ?_
  rotate_left
  · (intro wx _; go_simp; with_reducible rfl)
  simp only [Act.put, List.setIfInBounds_toArray, List.set_cons_zero, List.set_cons_succ]
  refine take_at (i := 9) (v := ?_) rfl (by kernel_rfl) (by kernel_rfl) (by kernel_rfl) (fun _ _ _ h => h) (by rfl) ?_ trivial ?_
  rotate_left
  · (intro wx _; go_simp; with_reducible rfl)
  simp only [Act.put, List.setIfInBounds_toArray, List.set_cons_zero, List.set_cons_succ]
  refine take_at (i := 10) (v := ?_) rfl (by kernel_rfl) (by kernel_rfl) (by kernel_rfl) (fun _ _ _ h => h) (by rfl) ?_ trivial ?_
  rotate_left
  · (intro wx _; go_simp; with_reducible rfl)
  simp only [Act.put, List.setIfInBounds_toArray, List.set_cons_zero, List.set_cons_succ]
  refine take_at (i := 11) (v := ?_) rfl (by kernel_rfl) (by kernel_rfl) (by kernel_rfl) (fun _ _ _ h => h) (by rfl) ?_ trivial ?_
  rotate_left
  · (intro wx _; go_simp; with_reducible rfl)
  simp only [Act.put, List.setIfInBounds_toArray, List.set_cons_zero, List.set_cons_succ]
  refine take_at (i := 12) (v := ?_) rfl (by kernel_rfl) (by kernel_rfl) (by kernel_rfl) (fun _ _ _ h => h) (by rfl) ?_ trivial ?_
  rotate_left
  · (intro wx _; go_simp; with_reducible rfl)
  simp only [Act.put, List.setIfInBounds_toArray, List.set_cons_zero, List.set_cons_succ]
  refine take_at (i := 15) (v := ?_) rfl (by kernel_rfl) (by kernel_rfl) (by kernel_rfl) (fun _ _ _ h => h) (by rfl) ?_ trivial ?_
  rotate_left
  · (intro wx _; go_simp; with_reducible rfl)
  simp only [Act.put, List.setIfInBounds_toArray, List.set_cons_zero, List.set_cons_succ]
  refine take_at (i := 16) (v := ?_) rfl (by kernel_rfl) (by kernel_rfl) (by kernel_rfl) (fun _ _ _ h => h) (by rfl) ?_ trivial ?_
  rotate_left
  · (intro wx _; go_simp; with_reducible rfl)
  simp only [Act.put, List.setIfInBounds_toArray, List.set_cons_zero, List.set_cons_succ]
  refine two_at (i := 8) (j := 13) rfl rfl (by kernel_rfl) (by rfl) (by rfl) (fun K hK => ?_) (fun K hK => ?_)
  · go_simp
    refine hK.out _ _ trivial ?_
    clear hK K
    try simp only [Act.put, List.setIfInBounds_toArray, List.set_cons_zero, List.set_cons_succ]
    refine only_at (i := 13) rfl (by kernel_rfl) (by rfl) (fun K hK => ?_)
    go_simp
    refine hK.out _ (w.drew.alloc (.cells #[.int .i64 k, .int .i64 i, .string c] 101)) trivial ?_
    clear hK K
    refine only_at (i := 14) rfl (by kernel_rfl) (by rfl) (fun K hK => ?_)
    refine wp_append_lies _ _ _ 65 rfl 0 101 i0 (.agg #[.int .i64 0, .int .i64 0, .string ⟨#[]⟩]) 3 32 Tryz.underlying65 hi hz0 hz1 hz2 rfl (by omega) (.slice asv (m.line n).sent.length csv) (m.line n).sent.length (rowOf (m.line n).sent) rfl (hrown.alloc _) ⟨w.heap.size, 0, none⟩ 1 1 (rcells (k, i, c)) rfl rfl ?_ (one_rec _) (by omega) (by unfold maxLen; omega) (by omega) (Nat.zero_le _) _ rfl ?_
    · exact news_rec w.drew _ rfl (k, i, c) _
    intro g3 c3 w3 own3 hg3 hat3 hlt3
    have hmA := hmd.alloc (.cells #[.int .i64 k, .int .i64 i, .string c] 101)
    have frB : Fr q o w o (w.drew.alloc (.cells #[.int .i64 k, .int .i64 i, .string c] 101)) := Fr.of_below h.clean ((Below.refl _ _).drew.alloc (Nat.le_refl _) _)
    rw [← hsv] at hg3 hat3
    have hat3' : (Value.slice (some ⟨g3, 0, none⟩) ((m.line n).sent.length + 1) c3).ownBlock = (lv n).ownBlock ∨ (Value.slice (some ⟨g3, 0, none⟩) ((m.line n).sent.length + 1) c3).ownBlock = some (w.drew.alloc (.cells #[.int .i64 k, .int .i64 i, .string c] 101)).heap.size := by
      rcases hat3 with e | e
      · exact .inl e.symm
      · right; rw [e]; rfl
    obtain ⟨o4, hm4, fr4⟩ := hmA.newSent hn (k, i, c) _ own3 hg3 hat3'
    have nb : some b ≠ (lv n).ownBlock := by
      intro e
      have := (hmd.sent n hn).2 _ e.symm
      rw [hmd.tag] at this
      simp at this
      omega
    have b3 : Blk w3 b _ _ := hmA.blk.keep (hg3.block b hmA.blk.lt nb)
    have z2 : w3.cell? ⟨b, 8 + n * 4 + 3, none⟩ = some (lv n) := by
      refine b3.cell ?_
      rcases n with _ | _ | _ | _ | n <;> first | rfl | omega
    rw [hsv] at z2
    have fz := b3.frozen
    refine hK.out _ _ trivial ?_
    clear hK K
    try simp only [Act.put, List.setIfInBounds_toArray, List.set_cons_zero, List.set_cons_succ]
    refine take_at (i := 17) (v := ?_) rfl (by kernel_rfl) (by kernel_rfl) (by kernel_rfl) (fun _ _ _ h => h) (by rfl) ?_ trivial ?_
    rotate_left
    · (intro wx _; go_simp; with_reducible rfl)
    simp only [Act.put, List.setIfInBounds_toArray, List.set_cons_zero, List.set_cons_succ]
    refine take_at (i := 18) (v := ?_) rfl (by kernel_rfl) (by kernel_rfl) (by kernel_rfl) (fun _ _ _ h => h) (by rfl) ?_ trivial ?_
    rotate_left
    · (intro wx _; go_simp; with_reducible rfl)
    simp only [Act.put, List.setIfInBounds_toArray, List.set_cons_zero, List.set_cons_succ]
    refine only_at (i := 19) rfl (by kernel_rfl) (by rfl) (fun K hK => ?_)
    go_simp
    refine hK.out _ _ trivial ?_
    clear hK K
    refine wpAnyH_done (by kernel_rfl) ?_ _
    refine NoPanic.normal ?_
    go_wp2
    exact bodyPost_end (v := .tuple #[]) (by simp [results, Tryz.results85, go_sem]) rfl ⟨rfl, o4, _, hm4, frB.trans fr4⟩
  · go_simp
    refine hK.out _ (w.drew.alloc (.cells #[.int .i64 k, .int .i64 i, .string c] 101)) trivial ?_
    clear hK K
    try simp only [Act.put, List.setIfInBounds_toArray, List.set_cons_zero, List.set_cons_succ]
    have y2a := fun ob => ((h.alloc ob).linec hn).2.2.2
    rw [hsv] at y2a
    refine only_at (i := 8) rfl (by kernel_rfl) (by rfl) (fun K hK => ?_)
    go_simp
    refine hK.out _ (w.drew.alloc (.cells #[.int .i64 k, .int .i64 i, .string c] 101)) trivial ?_
    clear hK K
    refine only_at (i := 14) rfl (by kernel_rfl) (by rfl) (fun K hK => ?_)
    refine wp_append_lies _ _ _ 65 rfl 0 101 i0 (.agg #[.int .i64 0, .int .i64 0, .string ⟨#[]⟩]) 3 32 Tryz.underlying65 hi hz0 hz1 hz2 rfl (by omega) (.slice asv (m.line n).sent.length csv) (m.line n).sent.length (rowOf (m.line n).sent) rfl (hrown.alloc _) ⟨w.heap.size, 0, none⟩ 1 1 (rcells (k, i, c)) rfl rfl ?_ (one_rec _) (by omega) (by unfold maxLen; omega) (by omega) (Nat.zero_le _) _ rfl ?_
    · exact news_rec w.drew _ rfl (k, i, c) _
    intro g3 c3 w3 own3 hg3 hat3 hlt3
    have hmA := hmd.alloc (.cells #[.int .i64 k, .int .i64 i, .string c] 101)
    have frB : Fr q o w o (w.drew.alloc (.cells #[.int .i64 k, .int .i64 i, .string c] 101)) := Fr.of_below h.clean ((Below.refl _ _).drew.alloc (Nat.le_refl _) _)
    rw [← hsv] at hg3 hat3
    have hat3' : (Value.slice (some ⟨g3, 0, none⟩) ((m.line n).sent.length + 1) c3).ownBlock = (lv n).ownBlock ∨ (Value.slice (some ⟨g3, 0, none⟩) ((m.line n).sent.length + 1) c3).ownBlock = some (w.drew.alloc (.cells #[.int .i64 k, .int .i64 i, .string c] 101)).heap.size := by
      rcases hat3 with e | e
      · exact .inl e.symm
      · right; rw [e]; rfl
    obtain ⟨o4, hm4, fr4⟩ := hmA.newSent hn (k, i, c) _ own3 hg3 hat3'
    have nb : some b ≠ (lv n).ownBlock := by
      intro e
      have := (hmd.sent n hn).2 _ e.symm
      rw [hmd.tag] at this
      simp at this
      omega
    have b3 : Blk w3 b _ _ := hmA.blk.keep (hg3.block b hmA.blk.lt nb)
    have z2 : w3.cell? ⟨b, 8 + n * 4 + 3, none⟩ = some (lv n) := by
      refine b3.cell ?_
      rcases n with _ | _ | _ | _ | n <;> first | rfl | omega
    rw [hsv] at z2
    have fz := b3.frozen
    refine hK.out _ _ trivial ?_
    clear hK K
    try simp only [Act.put, List.setIfInBounds_toArray, List.set_cons_zero, List.set_cons_succ]
    refine take_at (i := 17) (v := ?_) rfl (by kernel_rfl) (by kernel_rfl) (by kernel_rfl) (fun _ _ _ h => h) (by rfl) ?_ trivial ?_
    rotate_left
    · (intro wx _; go_simp; with_reducible rfl)
    simp only [Act.put, List.setIfInBounds_toArray, List.set_cons_zero, List.set_cons_succ]
    refine take_at (i := 18) (v := ?_) rfl (by kernel_rfl) (by kernel_rfl) (by kernel_rfl) (fun _ _ _ h => h) (by rfl) ?_ trivial ?_
    rotate_left
    · (intro wx _; go_simp; with_reducible rfl)
    simp only [Act.put, List.setIfInBounds_toArray, List.set_cons_zero, List.set_cons_succ]
    refine only_at (i := 19) rfl (by kernel_rfl) (by rfl) (fun K hK => ?_)
    go_simp
    refine hK.out _ _ trivial ?_
    clear hK K
    refine wpAnyH_done (by kernel_rfl) ?_ _
    refine NoPanic.normal ?_
    go_wp2
    exact bodyPost_end (v := .tuple #[]) (by simp [results, Tryz.results85, go_sem]) rfl ⟨rfl, o4, _, hm4, frB.trans fr4⟩
end
end Go.Proofs.YtmjnengplfoiiaaGreat

namespace Go.Proofs.YtmjnengplfoiiaaGreat
open Go.RowKit

def RM.over (m : RM) (a : Nat) : RM := { m with keys := m.keys.set a { m.key a with is := 3 } }
def RM.endKey (m : RM) (a : Nat) (st : Int) : RM := (m.send (m.key a).conn.toNat (3, (m.key a).id, strOfNums [st])).over a

section
variable {o : Nat → Tag} {q : Nat} {w : World} {b : Nat} {m : RM} {lv : Nat → Value} {kv qv : Value}

set_option maxRecDepth 100000 in
set_option maxHeartbeats 4000000 in
theorem rEnd_any (h : RMem o q w b m lv kv qv) (a : Nat) (ha : a < m.keys.length) (n : Nat) (hn : n < 4) (hcn : m.keys[a].conn = n) (st : Int) (h0 : 0 ≤ st) (h1 : st ≤ 255) (hmax : (m.line n).sent.length ≤ 1000000000000) :
    Calls Tryz.prog 56 #[.pointer (some ⟨b, 0, none⟩), .int .i64 a, .int .i64 st] w fun r w' => r = .returned (.tuple #[]) ∧ ∃ o' lv', RMem o' q w' b (m.endKey a st) lv' kv qv ∧ Fr q o w o' w' := by
  have hke := m.key_eq ha
  have hE : m.endKey a st = { m.send n (3, m.keys[a].id, strOfNums [st]) with keys := m.keys.set a { m.keys[a] with is := 3 } } := by
    unfold RM.endKey RM.over
    rw [show (m.send (m.key a).conn.toNat (3, (m.key a).id, strOfNums [st])).key a = m.key a from rfl, hke, show m.keys[a].conn.toNat = n from by rw [hcn]; simp]
    rfl
  rw [hE]
  have hset : rkeyCells (m.keys.set a { m.keys[a] with is := 3 }) = (rkeyCells m.keys).set (a * 4 + 3) (.int .i64 3) := rkeyCells_is m.keys a ha 3
  have HSET : Hid _ := hset
  have hlen : (m.keys.set a { m.keys[a] with is := 3 }).length = m.keys.length := by simp
  generalize m.keys.set a { m.keys[a] with is := 3 } = L at *
  clear hset hE
  obtain ⟨ak, ck, rfl, hkn, hrow⟩ := h.klist
  obtain ⟨g, rfl, hg, hgb, hgo, fg, c0, c1, c2, c3⟩ := hrow a ha
  rw [hcn] at c0
  have hrow2 : Hid (∀ (o' : Nat → Tag) (w' : World) (lv' : Nat → Value) (m' : RM), m'.keys = m.keys → RMem o' q w' b m' lv' (.slice (some ⟨g, 0, none⟩) m.keys.length ck) qv → w'.cell? ⟨b, 54, none⟩ = some (.slice (some ⟨g, 0, none⟩) m.keys.length ck) ∧ w'.cell? ⟨g, a * 4, none⟩ = some (.int .i64 n) ∧ w'.cell? ⟨g, a * 4 + 1, none⟩ = some (.int .i64 m.keys[a].id) ∧ w'.cell? ⟨g, a * 4 + 3, none⟩ = some (.int .i64 m.keys[a].is) ∧ ∀ j, w'.frozen? ⟨g, j, none⟩ = false) := by
    intro o' w' lv' m' hk' h'
    have ha' : a < m'.keys.length := by rw [hk']; exact ha
    obtain ⟨ak', ck', e, -, hr'⟩ := h'.klist
    rw [hk'] at e
    simp only [Value.slice.injEq, true_and] at e
    obtain ⟨rfl, rfl⟩ := e
    obtain ⟨g', e', -, -, -, fg', d0, d1, -, d3⟩ := hr' a ha'
    simp only [Option.some.injEq, Addr.mk.injEq, and_true] at e'
    subst e'
    simp only [hk'] at d0 d1 d3
    rw [hcn] at d0
    exact ⟨h'.keysv, d0, d1, d3, fg'⟩
  clear hrow c2 c3 fg
  generalize m.keys[a].id = id at *
  generalize m.keys[a].is = is at *
  have haI : (a : Int) < m.keys.length := by omega
  have hst : st % 256 = st := by omega
  have hwu : IntKind.u8.wrap st = st := by rw [IntKind.wrap_u8]; exact hst
  have hmd := h.below (Below.refl _ _).drew
  have hcv := conv_lit w.drew w.heap.size rfl 1 [st] #[.int .u8 st] rfl rfl (by omega)
  have hmA := hmd.alloc (.cells #[.int .u8 st] 5)
  have hSd := hrow2.out o w.drew lv m rfl hmd
  have hSA := hrow2.out o _ lv m rfl hmA
  have frA : Fr q o w o (w.drew.alloc (.cells #[.int .u8 st] 5)) := Fr.of_below h.clean ((Below.refl _ _).drew.alloc (Nat.le_refl _) _)
  clear hcn hke c0 c1
  go_enter Tryz.func56, Tryz.ntmps56
  go_wp2_with fail
  refine wp_region_noPanic ?_
  refine wp_region_held_drew (S := fun w' => w'.cell? ⟨b, 54, none⟩ = some (.slice (some ⟨g, 0, none⟩) m.keys.length ck) ∧ w'.cell? ⟨g, a * 4, none⟩ = some (.int .i64 n) ∧ w'.cell? ⟨g, a * 4 + 1, none⟩ = some (.int .i64 id)) (by kernel_rfl) ⟨hSd.1, hSd.2.1, hSd.2.2.1⟩ (fun hHeld => ?_)
  refine take_at (i := 0) (v := ?_) rfl (by kernel_rfl) (by kernel_rfl) (by kernel_rfl) (fun _ _ _ h => h) (by rfl) ?_ (by assumption) ?_
  rotate_left
  · (intro wx hSw; obtain ⟨x0, x1, x2⟩ := hSw; go_simp; with_reducible rfl)
  simp only [Act.put, List.setIfInBounds_toArray, List.set_cons_zero, List.set_cons_succ]
  refine take_at (i := 1) (v := ?_) rfl (by kernel_rfl) (by kernel_rfl) (by kernel_rfl) (fun _ _ _ h => h) (by rfl) ?_ (by assumption) ?_
  rotate_left
  · (intro wx hSw; obtain ⟨x0, x1, x2⟩ := hSw; go_simp; with_reducible rfl)
  simp only [Act.put, List.setIfInBounds_toArray, List.set_cons_zero, List.set_cons_succ]
  refine take_at (i := 2) (v := ?_) rfl (by kernel_rfl) (by kernel_rfl) (by kernel_rfl) (fun _ _ _ h => h) (by rfl) ?_ (by assumption) ?_
  rotate_left
  · (intro wx hSw; obtain ⟨x0, x1, x2⟩ := hSw; go_simp; with_reducible rfl)
  simp only [Act.put, List.setIfInBounds_toArray, List.set_cons_zero, List.set_cons_succ]
  refine take_at (i := 3) (v := ?_) rfl (by kernel_rfl) (by kernel_rfl) (by kernel_rfl) (fun _ _ _ h => h) (by rfl) ?_ (by assumption) ?_
  rotate_left
  · (intro wx hSw; obtain ⟨x0, x1, x2⟩ := hSw; go_simp; with_reducible rfl)
  simp only [Act.put, List.setIfInBounds_toArray, List.set_cons_zero, List.set_cons_succ]
  refine take_at (i := 4) (v := ?_) rfl (by kernel_rfl) (by kernel_rfl) (by kernel_rfl) (fun _ _ _ h => h) (by rfl) ?_ (by assumption) ?_
  rotate_left
  · (intro wx hSw; obtain ⟨x0, x1, x2⟩ := hSw; go_simp; with_reducible rfl)
  simp only [Act.put, List.setIfInBounds_toArray, List.set_cons_zero, List.set_cons_succ]
  refine take_at (i := 5) (v := ?_) rfl (by kernel_rfl) (by kernel_rfl) (by kernel_rfl) (fun _ _ _ h => h) (by rfl) ?_ (by assumption) ?_
  rotate_left
  · (intro wx hSw; obtain ⟨x0, x1, x2⟩ := hSw; go_simp; with_reducible rfl)
  simp only [Act.put, List.setIfInBounds_toArray, List.set_cons_zero, List.set_cons_succ]
  refine take_at (i := 6) (v := ?_) rfl (by kernel_rfl) (by kernel_rfl) (by kernel_rfl) (fun _ _ _ h => h) (by rfl) ?_ (by assumption) ?_
  rotate_left
  · (intro wx hSw; obtain ⟨x0, x1, x2⟩ := hSw; go_simp; with_reducible rfl)
  simp only [Act.put, List.setIfInBounds_toArray, List.set_cons_zero, List.set_cons_succ]
  refine take_at (i := 7) (v := ?_) rfl (by kernel_rfl) (by kernel_rfl) (by kernel_rfl) (fun _ _ _ h => h) (by rfl) ?_ (by assumption) ?_
  rotate_left
  · (intro wx hSw; obtain ⟨x0, x1, x2⟩ := hSw; go_simp; with_reducible rfl)
  simp only [Act.put, List.setIfInBounds_toArray, List.set_cons_zero, List.set_cons_succ]
  refine take_at (i := 8) (v := ?_) rfl (by kernel_rfl) (by kernel_rfl) (by kernel_rfl) (fun _ _ _ h => h) (by rfl) ?_ (by assumption) ?_
  rotate_left
  · (intro wx hSw; obtain ⟨x0, x1, x2⟩ := hSw; go_simp; with_reducible rfl)
  simp only [Act.put, List.setIfInBounds_toArray, List.set_cons_zero, List.set_cons_succ]
  refine take_at (i := 9) (v := ?_) rfl (by kernel_rfl) (by kernel_rfl) (by kernel_rfl) (fun _ _ _ h => h) (by rfl) ?_ (by assumption) ?_
  rotate_left
  · (intro wx hSw; obtain ⟨x0, x1, x2⟩ := hSw; go_simp; with_reducible rfl)
  simp only [Act.put, List.setIfInBounds_toArray, List.set_cons_zero, List.set_cons_succ]
  refine take_at (i := 10) (v := ?_) rfl (by kernel_rfl) (by kernel_rfl) (by kernel_rfl) (fun _ _ _ h => h) (by rfl) ?_ (by assumption) ?_
  rotate_left
  · (intro wx hSw; obtain ⟨x0, x1, x2⟩ := hSw; go_simp; with_reducible rfl)
  simp only [Act.put, List.setIfInBounds_toArray, List.set_cons_zero, List.set_cons_succ]
  refine take_at (i := 11) (v := ?_) rfl (by kernel_rfl) (by kernel_rfl) (by kernel_rfl) (fun _ _ _ h => h) (by rfl) ?_ (by assumption) ?_
  rotate_left
  · (intro wx hSw; obtain ⟨x0, x1, x2⟩ := hSw; go_simp; with_reducible rfl)
  simp only [Act.put, List.setIfInBounds_toArray, List.set_cons_zero, List.set_cons_succ]
  refine take_at (i := 12) (v := ?_) rfl (by kernel_rfl) (by kernel_rfl) (by kernel_rfl) (fun _ _ _ h => h) (by rfl) ?_ (by assumption) ?_
  rotate_left
  · (intro wx hSw; obtain ⟨x0, x1, x2⟩ := hSw; go_simp; with_reducible rfl)
  simp only [Act.put, List.setIfInBounds_toArray, List.set_cons_zero, List.set_cons_succ]
  refine take_at (i := 13) (v := ?_) rfl (by kernel_rfl) (by kernel_rfl) (by kernel_rfl) (fun _ _ _ h => h) (by rfl) ?_ (by assumption) ?_
  rotate_left
  · (intro wx hSw; obtain ⟨x0, x1, x2⟩ := hSw; go_simp; with_reducible rfl)
  simp only [Act.put, List.setIfInBounds_toArray, List.set_cons_zero, List.set_cons_succ]
  refine take_at (i := 14) (v := ?_) rfl (by kernel_rfl) (by kernel_rfl) (by kernel_rfl) (fun _ _ _ h => h) (by rfl) ?_ (by assumption) ?_
  rotate_left
  · (intro wx hSw; obtain ⟨x0, x1, x2⟩ := hSw; go_simp; with_reducible rfl)
  simp only [Act.put, List.setIfInBounds_toArray, List.set_cons_zero, List.set_cons_succ]
  refine take_at (i := 15) (v := ?_) rfl (by kernel_rfl) (by kernel_rfl) (by kernel_rfl) (fun _ _ _ h => h) (by rfl) ?_ (by assumption) ?_
  rotate_left
  · (intro wx hSw; obtain ⟨x0, x1, x2⟩ := hSw; go_simp; with_reducible rfl)
  simp only [Act.put, List.setIfInBounds_toArray, List.set_cons_zero, List.set_cons_succ]
  refine take_at (i := 16) (v := ?_) rfl (by kernel_rfl) (by kernel_rfl) (by kernel_rfl) (fun _ _ _ h => h) (by rfl) ?_ (by assumption) ?_
  rotate_left
  · (intro wx hSw; obtain ⟨x0, x1, x2⟩ := hSw; go_simp; with_reducible rfl)
  simp only [Act.put, List.setIfInBounds_toArray, List.set_cons_zero, List.set_cons_succ]
  refine take_at (i := 17) (v := ?_) rfl (by kernel_rfl) (by kernel_rfl) (by kernel_rfl) (fun _ _ _ h => h) (by rfl) ?_ (by assumption) ?_
  rotate_left
  · (intro wx hSw; obtain ⟨x0, x1, x2⟩ := hSw; go_simp; with_reducible rfl)
  simp only [Act.put, List.setIfInBounds_toArray, List.set_cons_zero, List.set_cons_succ]
  refine take_at (i := 18) (v := ?_) rfl (by kernel_rfl) (by kernel_rfl) (by kernel_rfl) (fun _ _ _ h => h) (by rfl) ?_ (by assumption) ?_
  rotate_left
  · (intro wx hSw; obtain ⟨x0, x1, x2⟩ := hSw; go_simp; with_reducible rfl)
  simp only [Act.put, List.setIfInBounds_toArray, List.set_cons_zero, List.set_cons_succ]
  refine only_at (i := 19) rfl (by kernel_rfl) (by rfl) (fun K hK => ?_)
  go_simp
  refine hK.out _ (w.drew.alloc (.cells #[.int .u8 st] 5)) ⟨hSA.1, hSA.2.1, hSA.2.2.1⟩ ?_
  clear hK K hHeld
  have hcv2 : (convert 52 9 (.slice (some ⟨w.heap.size, 0, none⟩) 1 1)).run Tryz.prog (w.alloc (.cells #[.int .u8 st] 5)).drew = .ok (.string (strOfNums [st])) (w.alloc (.cells #[.int .u8 st] 5)).drew := hcv
  try simp only [Act.put, List.setIfInBounds_toArray, List.set_cons_zero, List.set_cons_succ]
  refine only_at (i := 20) rfl (by kernel_rfl) (by rfl) (fun K hK => ?_)
  go_simp
  refine hK.out _ (w.drew.alloc (.cells #[.int .u8 st] 5)) ⟨hSA.1, hSA.2.1, hSA.2.2.1⟩ ?_
  clear hK K
  try simp only [Act.put, List.setIfInBounds_toArray, List.set_cons_zero, List.set_cons_succ]
  refine only_at (i := 21) rfl (by kernel_rfl) (by rfl) (fun K hK => ?_)
  go_simp
  refine (rSend_any hmA n hn 3 id (strOfNums [st]) hmax).mono ?_
  rintro e w2 ⟨rfl, o2, lv2, hm2, fr2⟩
  have hS2 := hrow2.out o2 w2 lv2 (m.send n (3, id, strOfNums [st])) rfl hm2
  refine hK.out _ _ ⟨hS2.1, hS2.2.1, hS2.2.2.1⟩ ?_
  clear hK K
  refine wpAnyH_done (by kernel_rfl) ?_ _
  refine NoPanic.normal ?_
  obtain ⟨z0, z1, z2, z3, fz⟩ := hS2
  clear hSd hSA hcv hcv2 hmd
  obtain ⟨hm3, fr3⟩ := hm2.setKey rfl (a * 4 + 3) (.int .i64 3) L hlen HSET.out
  go_wp2
  refine bodyPost_end (v := .tuple #[]) (by simp [results, Tryz.results56, go_sem]) rfl ⟨rfl, ?_⟩
  first | exact ⟨o2, lv2, hm3, (frA.trans fr2).trans fr3⟩ | exact ⟨o2, ⟨lv2, hm3⟩, (frA.trans fr2).trans fr3⟩
end
end Go.Proofs.YtmjnengplfoiiaaGreat

namespace Go.Proofs.YtmjnengplfoiiaaGreat
open Go.RowKit

theorem infoRKey : (Tryz.prog.info? 98).map (fun i => (i.zero, i.size, i.bytes)) = some (some (.agg #[.int .i64 0, .int .i64 0, .string ⟨#[]⟩, .int .i64 0]), 4, 40) := by kernel_rfl
theorem rkeyCells_append (a b : List RKey) : rkeyCells (a ++ b) = rkeyCells a ++ rkeyCells b := by simp [rkeyCells]
theorem rkeyCells_one (l : List RKey) : ∀ u ∈ rkeyCells l, u.oneCell' = true := by
  intro u hu
  simp only [rkeyCells, List.mem_flatMap] at hu
  obtain ⟨r, _, hr⟩ := hu
  simp only [RKey.cells, List.mem_cons, List.not_mem_nil, or_false] at hr
  rcases hr with rfl | rfl | rfl | rfl <;> rfl
theorem news_rkey (W : World) (g : Nat) (hg : W.heap.size = g) (r : RKey) (T : TypeId) : ∀ j u, (rkeyCells [r])[j]? = some u → (W.alloc (.cells #[.int .i64 r.conn, .int .i64 r.id, .string r.body, .int .i64 r.is] T)).cell? ((⟨g, 0, none⟩ : Addr).add j) = some u := by
  subst hg
  exact World.news_of_block (heap_alloc_new W _)

section
variable {o : Nat → Tag} {q : Nat} {w : World} {b : Nat} {m : RM} {lv : Nat → Value} {kv qv : Value}

/-- One key more stands in the list. -/
theorem RMem.pushKey {w1 : World} (h : RMem o q w b m lv kv qv) (v : Value) (l : List RKey) (own : w1.ownsRow 0 98 4 v l.length (rkeyCells l))
    (hg : w.grownBy w1 kv.ownBlock) (hat : kv.ownBlock = v.ownBlock ∨ v.ownBlock = some w.heap.size) :
    ∃ o', RMem o' q (w1.setCell ⟨b, 54, none⟩ v) b { m with keys := l } lv v qv ∧ Fr q o w o' (w1.setCell ⟨b, 54, none⟩ v) := by
  have hbl := h.blk.lt
  have hlt := own.lt
  have hst := h.keys.2
  let o' : Nat → Tag := fun g => if v.ownBlock = some g then (q, 6) else o g
  have oold : ∀ g, g < w.heap.size → o' g = o g := by
    intro g hgl
    by_cases e : v.ownBlock = some g
    · simp only [o', if_pos e]
      rcases hat with h1 | h1
      · rw [← h1] at e; exact (hst g e).symm
      · rw [h1] at e; simp at e; omega
    · simp only [o', if_neg e]
  have hsz : (w1.setCell ⟨b, 54, none⟩ v).heap.size = w1.heap.size := by simp [World.setCell]
  have hcl : Clean o' (w1.setCell ⟨b, 54, none⟩ v) := by
    intro g hgl
    rw [hsz] at hgl
    have e : ¬ v.ownBlock = some g := by intro e; have := (hlt g e).2; omega
    simp only [o', if_neg e]
    exact h.clean g (Nat.le_trans hg.size hgl)
  have hnb : some b ≠ kv.ownBlock := by intro e; have := hst b e.symm; rw [h.tag] at this; simp at this
  have hoth : ∀ g, g < w.heap.size → g ≠ b → some g ≠ kv.ownBlock → (w1.setCell ⟨b, 54, none⟩ v).heap[g]? = w.heap[g]? := by
    intro g hgl hne hn2
    rw [Below.heap_setCell _ _ _ g hne]; exact hg.block g hgl hn2
  have hvb : ∀ g, v.ownBlock = some g → g ≠ b := by
    intro g e
    rcases hat with h1 | h1
    · rw [← h1] at e; rintro rfl; exact hnb e.symm
    · rw [h1] at e; simp at e; omega
  refine ⟨o', ⟨hcl, (oold b hbl).trans h.tag, ?_, fun j hj => ?_, ?_, ?_⟩, ⟨hg.os, hg.tape, hg.output, by rw [hsz]; exact hg.size, hcl, oold, fun g hgl hq => hoth g hgl ?_ ?_⟩⟩
  · have b1 : Blk w1 b _ _ := h.blk.keep (hg.block b hbl hnb)
    exact b1.set 54 v
  · refine (h.sent j hj).keep oold fun g hgl ht => hoth g hgl ?_ ?_
    · rintro rfl; rw [h.tag] at ht; simp at ht; omega
    · intro e2; have := hst g e2.symm; rw [ht] at this; simp at this; omega
  · exact ⟨own_keepAt own (fun g hgv => Below.heap_setCell _ _ _ g (hvb g hgv)) (Nat.le_refl _), fun g hgv => by simp only [o', if_pos hgv]⟩
  · refine h.queue.keep oold fun g hgl ht => hoth g hgl ?_ ?_
    · rintro rfl; rw [h.tag] at ht; simp at ht
    · intro e2; have := hst g e2.symm; rw [ht] at this; simp at this
  · rintro rfl; rw [h.tag] at hq; exact hq rfl
  · intro e2; have := hst g e2.symm; rw [this] at hq; exact hq rfl

/-- One place more stands in the queue. -/
theorem RMem.pushQueue {w1 : World} (h : RMem o q w b m lv kv qv) (v : Value) (l : List Nat) (own : w1.ownsRow 0 3 1 v l.length (numCells l))
    (hg : w.grownBy w1 qv.ownBlock) (hat : qv.ownBlock = v.ownBlock ∨ v.ownBlock = some w.heap.size) :
    ∃ o', RMem o' q (w1.setCell ⟨b, 55, none⟩ v) b { m with queue := l } lv kv v ∧ Fr q o w o' (w1.setCell ⟨b, 55, none⟩ v) := by
  have hbl := h.blk.lt
  have hlt := own.lt
  have hst := h.queue.2
  let o' : Nat → Tag := fun g => if v.ownBlock = some g then (q, 7) else o g
  have oold : ∀ g, g < w.heap.size → o' g = o g := by
    intro g hgl
    by_cases e : v.ownBlock = some g
    · simp only [o', if_pos e]
      rcases hat with h1 | h1
      · rw [← h1] at e; exact (hst g e).symm
      · rw [h1] at e; simp at e; omega
    · simp only [o', if_neg e]
  have hsz : (w1.setCell ⟨b, 55, none⟩ v).heap.size = w1.heap.size := by simp [World.setCell]
  have hcl : Clean o' (w1.setCell ⟨b, 55, none⟩ v) := by
    intro g hgl
    rw [hsz] at hgl
    have e : ¬ v.ownBlock = some g := by intro e; have := (hlt g e).2; omega
    simp only [o', if_neg e]
    exact h.clean g (Nat.le_trans hg.size hgl)
  have hnb : some b ≠ qv.ownBlock := by intro e; have := hst b e.symm; rw [h.tag] at this; simp at this
  have hoth : ∀ g, g < w.heap.size → g ≠ b → some g ≠ qv.ownBlock → (w1.setCell ⟨b, 55, none⟩ v).heap[g]? = w.heap[g]? := by
    intro g hgl hne hn2
    rw [Below.heap_setCell _ _ _ g hne]; exact hg.block g hgl hn2
  have hvb : ∀ g, v.ownBlock = some g → g ≠ b := by
    intro g e
    rcases hat with h1 | h1
    · rw [← h1] at e; rintro rfl; exact hnb e.symm
    · rw [h1] at e; simp at e; omega
  refine ⟨o', ⟨hcl, (oold b hbl).trans h.tag, ?_, fun j hj => ?_, ?_, ?_⟩, ⟨hg.os, hg.tape, hg.output, by rw [hsz]; exact hg.size, hcl, oold, fun g hgl hq => hoth g hgl ?_ ?_⟩⟩
  · have b1 : Blk w1 b _ _ := h.blk.keep (hg.block b hbl hnb)
    exact b1.set 55 v
  · refine (h.sent j hj).keep oold fun g hgl ht => hoth g hgl ?_ ?_
    · rintro rfl; rw [h.tag] at ht; simp at ht; omega
    · intro e2; have := hst g e2.symm; rw [ht] at this; simp at this; omega
  · refine h.keys.keep oold fun g hgl ht => hoth g hgl ?_ ?_
    · rintro rfl; rw [h.tag] at ht; simp at ht
    · intro e2; have := hst g e2.symm; rw [ht] at this; simp at this
  · exact ⟨own_keepAt own (fun g hgv => Below.heap_setCell _ _ _ g (hvb g hgv)) (Nat.le_refl _), fun g hgv => by simp only [o', if_pos hgv]⟩
  · rintro rfl; rw [h.tag] at hq; exact hq rfl
  · intro e2; have := hst g e2.symm; rw [this] at hq; exact hq rfl

end
end Go.Proofs.YtmjnengplfoiiaaGreat
