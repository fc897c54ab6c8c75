import Derived.Test.YtlafkpaljibonaaGreatP5
namespace Go.Proofs.YtlafkpaljibonaaGreat
open Go.RowKit

def zeroSlot : PSlot := ⟨0, false, 0, 0, 0, 0, ⟨#[]⟩⟩
/-- New's foreman, its first k slots laid. -/
def rawTo (c : Cfg) (k : Nat) : PM := ⟨c, 0, fun _ => ⟨false, ⟨#[]⟩, []⟩, [], fun i => if i < k then newSlot 0 else zeroSlot⟩
def rawPM (c : Cfg) : PM := ⟨c, 0, fun _ => ⟨false, ⟨#[]⟩, []⟩, [], fun _ => newSlot 0⟩
def newPM (c : Cfg) : PM := (rawPM c).settle
def nilV : Nat → Value := fun _ => .slice none 0 0

theorem rawTo_succ (c : Cfg) (k : Nat) : { rawTo c k with slot := upd (rawTo c k).slot k (newSlot 0) } = rawTo c (k + 1) := by
  simp only [rawTo, PM.mk.injEq, true_and]
  funext i
  simp only [upd]
  by_cases h1 : i = k
  · subst h1; simp
  · simp only [h1, if_false]
    by_cases h2 : i < k
    · simp [h2, show i < k + 1 from by omega]
    · simp [h2, show ¬ i < k + 1 from by omega]

theorem FMem.raw {o : Nat → Tag} {q : Nat} {w : World} (hc : Clean o w) (c : Cfg) (h6 : c.ch ≤ 6) :
    FMem (upd o w.heap.size (q, 1)) q (w.alloc (.cells (fcells (rawTo c 0) nilV (.slice none 0 0)).toArray 64)) w.heap.size (rawTo c 0) nilV (.slice none 0 0) := by
  refine ⟨?_, upd_same _ _ _, Blk.made w _ _, fun k hk => Row.nil _ _ _ _ _, Row.nil _ _ _ _ _, h6⟩
  intro g hg
  have h1 : w.heap.size + 1 ≤ g := by simpa using hg
  rw [upd_other _ _ (by omega)]
  exact hc g (by omega)

theorem Fr.made {o : Nat → Tag} {q : Nat} {w w' : World} (t : Tag) (hb : Below w.heap.size w w') (hc : Clean (upd o w.heap.size t) w') : Fr q o w (upd o w.heap.size t) w' :=
  ⟨hb.os, hb.tape, hb.output, hb.size, hc, fun g hg => upd_other _ _ (by omega), fun g hg _ => hb.block g hg⟩

section
variable {o : Nat → Tag} {q : Nat} {w : World} {b : Nat} {m : PM} {sv : Nat → Value} {rv : Value}

set_option maxRecDepth 100000 in
set_option maxHeartbeats 1000000 in
theorem new_no (c : Cfg) (w : World) (h : c.ok = false) :
    Calls Tryz.prog 13 #[c.val] w fun r w' => r = .returned (.tuple #[.pointer none, .int .i64 1]) ∧ Below w.heap.size w w' := by
  have hc : Hid (∀ w, Calls Tryz.prog 29 #[c.val] w fun r w' => r = .returned (.bool false) ∧ Below w.heap.size w w') := fun w => h ▸ mayBe_any c w
  unfold Cfg.val at *
  go_enter Tryz.func13, Tryz.ntmps13
  go_wp2_with fail
  refine (hc.out _).mono ?_
  rintro e w1 ⟨rfl, hb⟩
  go_wp2
  go_ret2
  exact ⟨rfl, ((Below.refl _ _).alloc (Nat.le_refl _) _).trans (hb.mono (by simp))⟩

set_option maxRecDepth 100000 in
set_option maxHeartbeats 2000000 in
theorem new_yes (c : Cfg) (w : World) (ho : Clean o w) (h : c.ok = true) :
    Calls Tryz.prog 13 #[c.val] w fun r w' => ∃ b o', r = .returned (.tuple #[.pointer (some ⟨b, 0, none⟩), .int .i64 0]) ∧ FMem o' q w' b (newPM c) nilV (.slice none 0 0) ∧ Fr q o w o' w' := by
  have hc : Hid (∀ w, Calls Tryz.prog 29 #[c.val] w fun r w' => r = .returned (.bool true) ∧ Below w.heap.size w w') := fun w => h ▸ mayBe_any c w
  have h6 : c.ch ≤ 6 := by simp only [Cfg.ok, Bool.and_eq_true, decide_eq_true_eq] at h; omega
  have hset : c = ⟨c.ch, c.dyn, c.mn, c.mx, c.mr, c.tmo, c.bl⟩ := rfl
  unfold Cfg.val at *
  clear hset
  go_enter Tryz.func13, Tryz.ntmps13
  go_wp2_with fail
  have hb0 : Below w.heap.size w (w.alloc (.cells #[.int .i64 c.ch, .bool c.dyn, .int .i64 c.mn, .int .i64 c.mx, .int .i64 c.mr, .int .i64 c.tmo, .int .i64 c.bl] 23)) := (Below.refl _ _).alloc (Nat.le_refl _) _
  have hk0 := Blk.made w 23 c.cells
  have e0 : (w.alloc (.cells c.cells.toArray 23)).heap.size = w.heap.size + 1 := by simp
  refine (hc.out _).mono ?_
  rintro e w1 ⟨rfl, hb⟩
  have hk1 := hk0.below hb
  have d0 := hk1.cell (k := 0) (u := .int .i64 c.ch) rfl
  have d1 := hk1.cell (k := 1) (u := .bool c.dyn) rfl
  have d2 := hk1.cell (k := 2) (u := .int .i64 c.mn) rfl
  have d3 := hk1.cell (k := 3) (u := .int .i64 c.mx) rfl
  have d4 := hk1.cell (k := 4) (u := .int .i64 c.mr) rfl
  have d5 := hk1.cell (k := 5) (u := .int .i64 c.tmo) rfl
  have d6 := hk1.cell (k := 6) (u := .int .i64 c.bl) rfl
  have hb1 : Below w.heap.size w w1 := hb0.trans (hb.mono (by simp))
  have ho1 : Clean o w1 := ho.le hb1.size
  clear hk0 hk1 hb0 hb
  go_wp2
  have hm0 := FMem.raw (q := q) ho1 c h6
  have fr0 := (Fr.of_below (q := q) ho hb1).trans (Fr.made (q := q) (w' := w1.alloc (.cells (fcells (rawTo c 0) nilV (.slice none 0 0)).toArray 64)) (q, 1) ((Below.refl w1.heap.size w1).alloc (Nat.le_refl _) _) hm0.clean)
  generalize ho2 : upd o w1.heap.size (q, 1) = o1 at *
  clear ho2
  go_loopw [12] (fun i w' => ∃ k : Nat, k ≤ 6 ∧ i = .int .i64 k ∧ FMem o1 q w' w1.heap.size (rawTo c k) nilV (.slice none 0 0) ∧ Fr q o w o1 w') (fun i _ => 6 - (intOf i).toNat)
  case atStart => exact ⟨0, by omega, rfl, hm0, fr0⟩
  case round =>
    obtain ⟨k, hk, rfl, hm, hfr⟩ := hrel
    clear d0 d1 d2 d3 d4 d5 d6 hm0 fr0
    by_cases hlt : k < 6
    · have hmd := hm.below (Below.refl _ _).drew
      go_wp2
      go_region_held3 (fun w' => True) (trivial) (first | (go_at_call 30; refine (newPlace_any _ _).mono ?_; rintro e w2 ⟨rfl, hb2⟩; have hm2 := hmd.below hb2; obtain ⟨d0, d1, d2, d3, d4, d5, d6⟩ := hm2.slotc hlt; have fz := hm2.frozen))
      go_wp2
      have fr2 : Fr q o w o1 w2 := hfr.trans ((Fr.of_below hm.clean (Below.refl _ _).drew).trans (Fr.of_below hmd.clean hb2))
      have hm3 := hm2.putSlot hlt (newSlot 0)
      rw [rawTo_succ] at hm3
      refine ⟨⟨k + 1, by omega, by go_num, hm3, ?_⟩, by simp [intOf]; omega⟩
      exact fr2.trans (hm2.fr_put hm3 (by simp [World.setCell]) (by simp [World.setCell]) (by simp [World.setCell]) (by simp [World.setCell]) (by intro g hg; repeat rw [Below.heap_setCell _ _ _ g (by simpa using hg)]))
    · have : k = 6 := by omega
      subst this
      go_wp2_with fail
      have hm6 : FMem o1 q wr w1.heap.size (rawPM c) nilV (.slice none 0 0) := ⟨hm.clean, hm.tag, hm.blk, hm.sent, hm.reqs, hm.few⟩
      refine (settle_any hm6).mono ?_
      rintro e w2 ⟨rfl, hm2, fr2⟩
      go_wp2
      go_ret2
      exact ⟨_, o1, rfl, hm2, hfr.trans fr2⟩

def keyCells (l : List (Int × Int)) : List Value := l.flatMap fun k => [.int .i64 k.1, .int .i64 k.2]
def PM.waits (m : PM) : List (Int × Int) := (m.req.filter fun r => r.stage == 1).map fun r => (r.conn, r.id)

theorem keyCells_append (a b : List (Int × Int)) : keyCells (a ++ b) = keyCells a ++ keyCells b := by simp [keyCells]
theorem keyCells_length (l : List (Int × Int)) : (keyCells l).length = l.length * 2 := by
  induction l with
  | nil => rfl
  | cons r l ih => simp [keyCells] at *; omega
theorem keyCells_one (l : List (Int × Int)) : ∀ u ∈ keyCells l, u.oneCell' = true := by
  intro u hu
  simp only [keyCells, List.mem_flatMap] at hu
  obtain ⟨r, _, hr⟩ := hu
  simp only [List.mem_cons, List.not_mem_nil, or_false] at hr
  rcases hr with rfl | rfl <;> rfl

theorem news_key (W : World) (g : Nat) (hg : W.heap.size = g) (x y : Int) (T : TypeId) : ∀ j u, (keyCells [(x, y)])[j]? = some u → (W.alloc (.cells #[.int .i64 x, .int .i64 y] T)).cell? ((⟨g, 0, none⟩ : Addr).add j) = some u := by
  subst hg
  exact World.news_of_block (heap_alloc_new W _)

theorem infoKey : (Tryz.prog.info? 89).map (fun i => (i.zero, i.size, i.bytes)) = some (some (.agg #[.int .i64 0, .int .i64 0]), 2, 16) := by kernel_rfl

set_option maxRecDepth 100000 in
set_option maxHeartbeats 2000000 in
theorem backlog_any (h : FMem o q w b m sv rv) (hmax : m.req.length ≤ 1000000000000) :
    Calls Tryz.prog 41 #[.pointer (some ⟨b, 0, none⟩)] w fun r w' => ∃ v, r = .returned v ∧ w'.ownsRow w.heap.size 89 2 v m.waits.length (keyCells m.waits) ∧ Below w.heap.size w w' := by
  obtain ⟨i0, hi, hz0, hz1, hz2⟩ := info_parts infoKey
  obtain ⟨ao, c, rfl, hn, hrow⟩ := h.list
  have h1 := h.reqv
  go_enter Tryz.func41, Tryz.ntmps41
  go_wp2
  go_loopw [3, 11] (fun v i w' => ∃ k : Nat, k ≤ m.req.length ∧ i = .int .i64 k ∧ w'.ownsRow w.heap.size 89 2 v (((m.req.take k).filter fun r => r.stage == 1).map fun r => (r.conn, r.id)).length (keyCells (((m.req.take k).filter fun r => r.stage == 1).map fun r => (r.conn, r.id))) ∧ Below w.heap.size w w') (fun _ i _ => m.req.length - (intOf i).toNat)
  case atStart => exact ⟨0, by omega, rfl, World.ownsRow_nil _ _ _ _, Below.refl _ _⟩
  case round =>
    obtain ⟨k, hk, rfl, hown, hb⟩ := hrel
    have hbase := hb.size
    by_cases hlt : k < m.req.length
    · obtain ⟨g, rfl, hg, -, -, c0, c1, c2, c3⟩ := hrow k hlt
      have hst := List.take_succ_eq_append_getElem hlt
      have HS : Hid _ := hst
      have hll : ((m.req.take k).filter fun r => r.stage == 1).length ≤ k := Nat.le_trans (List.length_filter_le _ _) (by rw [List.length_take]; omega)
      clear hst hrow
      rw [← hb.cell (by exact hg)] at c0 c1 c2 c3
      generalize hacc : (List.map (fun (r : Req) => (r.conn, r.id)) (List.filter (fun r => r.stage == 1) (List.take k m.req))) = acc at *
      have HA : Hid _ := hacc
      have hal : acc.length ≤ k := by rw [← hacc]; simpa using hll
      clear hacc hll
      generalize m.req[k] = r at *
      by_cases h1 : r.stage = 1
      · rw [h1] at c2
        go_wp2_with (at_builtin; refine wpList_append_own _ rfl _ _ 86 rfl w.heap.size 89 i0 (.agg #[.int .i64 0, .int .i64 0]) 2 16 Tryz.underlying86 hi hz0 hz1 hz2 rfl (by omega) u3 acc.length (keyCells acc) rfl ?hown ⟨wr.heap.size + 1, 0, none⟩ 1 1 (keyCells [(r.conn, r.id)]) rfl rfl ?hnews ?h1 ?h63 ?hbytes ?hbase ?_)
        case hown => exact (hown.alloc _).alloc _
        case hnews => exact news_key _ _ (by simp) _ _ _
        case h1 => exact keyCells_one _
        case h63 => unfold maxLen; omega
        case hbytes => omega
        case hbase => simp; omega
        intro v' w2 hown2 hgrow _
        go_wp2
        refine ⟨⟨k + 1, by omega, by go_num, ?_, ?_⟩, by simp [intOf]; omega⟩
        · rw [HS.out, List.filter_append, List.map_append, show List.filter (fun r => r.stage == 1) [r] = [r] from by simp [List.filter, h1], HA.out, keyCells_append]
          simpa using hown2
        · refine ((hb.alloc hbase _).alloc (by simp; omega) _).grown hgrow (by simp; omega) ?_
          intro x hx
          exact (hown.lt x hx).1
      · have h2 : (r.stage == 1) = false := by simpa using h1
        go_wp2
        refine ⟨⟨k + 1, by omega, by go_num, ?_, hb.alloc hbase _⟩, by simp [intOf]; omega⟩
        rw [HS.out, List.filter_append, List.map_append, show List.filter (fun r => r.stage == 1) [r] = [] from by simp [List.filter, h2], HA.out]
        simpa using hown.alloc _
    · have : k = m.req.length := by omega
      subst this
      go_wp2
      go_ret
      rw [List.take_length] at hown
      exact ⟨_, rfl, hown, hb⟩

end
end Go.Proofs.YtlafkpaljibonaaGreat
