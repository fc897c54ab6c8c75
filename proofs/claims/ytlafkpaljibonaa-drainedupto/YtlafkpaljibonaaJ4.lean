import Derived.Test.YtlafkpaljibonaaJ3
import Derived.Deep.RegionWith
import Derived.Laws.StructEq
import Derived.Test.YtlafkpaljibonaaJ1
namespace Go.Proofs.Ytlafkpaljibonaa
open Go.RowKit

def inB (n a b : Int) : Bool := decide (a ≤ n) && decide (n ≤ b)

theorem within_in (n a b : Int) (w : World) :
    Calls Try.prog 81 #[.int .i64 n, .int .i64 a, .int .i64 b] w fun r w' => r = .returned (.bool (inB n a b)) ∧ w' = w := within_any n a b w

theorem cfg_ok (c : Cfg) : c.ok = (inB c.ch 1 6 && inB c.bl 0 20 && (inB c.mr 0 1000 && inB c.tmo 0 1000) && (!c.dyn || (inB c.mn 1 c.ch && inB c.mx c.mn c.ch))) := by
  rw [Bool.eq_iff_iff]
  simp [Cfg.ok, inB]
  intro _ _ _ _ _ _ _ _
  constructor
  · rintro (h9 | h9)
    · exact .inl h9
    · right; omega
  · rintro (h9 | h9)
    · exact .inl h9
    · right; omega

set_option maxRecDepth 100000 in
set_option maxHeartbeats 4000000 in
theorem mayBe_any (c : Cfg) (w : World) :
    Calls Try.prog 73 #[c.val] w fun r w' => r = .returned (.bool c.ok) ∧ Below w.heap.size w w' := by
  rw [cfg_ok]
  obtain ⟨ch, dyn, mn, mx, mr, tmo, bl⟩ := c
  simp only [Cfg.val]
  generalize h1 : inB ch 1 6 = b1
  generalize h2 : inB bl 0 20 = b2
  generalize h3 : inB mr 0 1000 = b3
  generalize h4 : inB tmo 0 1000 = b4
  generalize h5 : inB mn 1 ch = b5
  generalize h6 : inB mx mn ch = b6
  have c1 : Hid (∀ w, Calls Try.prog 81 #[.int .i64 ch, .int .i64 1, .int .i64 6] w fun r w' => r = .returned (.bool b1) ∧ w' = w) := fun w => h1 ▸ within_in _ _ _ w
  have c2 : Hid (∀ w, Calls Try.prog 81 #[.int .i64 bl, .int .i64 0, .int .i64 20] w fun r w' => r = .returned (.bool b2) ∧ w' = w) := fun w => h2 ▸ within_in _ _ _ w
  have c3 : Hid (∀ w, Calls Try.prog 81 #[.int .i64 mr, .int .i64 0, .int .i64 1000] w fun r w' => r = .returned (.bool b3) ∧ w' = w) := fun w => h3 ▸ within_in _ _ _ w
  have c4 : Hid (∀ w, Calls Try.prog 81 #[.int .i64 tmo, .int .i64 0, .int .i64 1000] w fun r w' => r = .returned (.bool b4) ∧ w' = w) := fun w => h4 ▸ within_in _ _ _ w
  have c5 : Hid (∀ w, Calls Try.prog 81 #[.int .i64 mn, .int .i64 1, .int .i64 ch] w fun r w' => r = .returned (.bool b5) ∧ w' = w) := fun w => h5 ▸ within_in _ _ _ w
  have c6 : Hid (∀ w, Calls Try.prog 81 #[.int .i64 mx, .int .i64 mn, .int .i64 ch] w fun r w' => r = .returned (.bool b6) ∧ w' = w) := fun w => h6 ▸ within_in _ _ _ w
  clear h1 h2 h3 h4 h5 h6
  cases b1
  · skip
    go_enter Try.func73, Try.ntmps73
    go_wp2_with fail
    refine (c1.out _).mono ?_
    rintro e w' ⟨rfl, rfl⟩
    go_wp2
    go_ret
    exact ⟨by simp, (Below.refl _ _).alloc (Nat.le_refl _) _⟩
  · skip
    cases b2
    · skip
      go_enter Try.func73, Try.ntmps73
      go_wp2_with fail
      refine (c1.out _).mono ?_
      rintro e w' ⟨rfl, rfl⟩
      go_wp2_with fail
      refine (c2.out _).mono ?_
      rintro e w' ⟨rfl, rfl⟩
      go_wp2
      go_ret
      exact ⟨by simp, (Below.refl _ _).alloc (Nat.le_refl _) _⟩
    · skip
      cases b3
      · skip
        go_enter Try.func73, Try.ntmps73
        go_wp2_with fail
        refine (c1.out _).mono ?_
        rintro e w' ⟨rfl, rfl⟩
        go_wp2_with fail
        refine (c2.out _).mono ?_
        rintro e w' ⟨rfl, rfl⟩
        go_wp2_with fail
        refine (c3.out _).mono ?_
        rintro e w' ⟨rfl, rfl⟩
        go_wp2
        go_ret
        exact ⟨by simp, (Below.refl _ _).alloc (Nat.le_refl _) _⟩
      · skip
        cases b4
        · skip
          go_enter Try.func73, Try.ntmps73
          go_wp2_with fail
          refine (c1.out _).mono ?_
          rintro e w' ⟨rfl, rfl⟩
          go_wp2_with fail
          refine (c2.out _).mono ?_
          rintro e w' ⟨rfl, rfl⟩
          go_wp2_with fail
          refine (c3.out _).mono ?_
          rintro e w' ⟨rfl, rfl⟩
          go_wp2_with fail
          refine (c4.out _).mono ?_
          rintro e w' ⟨rfl, rfl⟩
          go_wp2
          go_ret
          exact ⟨by simp, (Below.refl _ _).alloc (Nat.le_refl _) _⟩
        · skip
          cases dyn
          · skip
            go_enter Try.func73, Try.ntmps73
            go_wp2_with fail
            refine (c1.out _).mono ?_
            rintro e w' ⟨rfl, rfl⟩
            go_wp2_with fail
            refine (c2.out _).mono ?_
            rintro e w' ⟨rfl, rfl⟩
            go_wp2_with fail
            refine (c3.out _).mono ?_
            rintro e w' ⟨rfl, rfl⟩
            go_wp2_with fail
            refine (c4.out _).mono ?_
            rintro e w' ⟨rfl, rfl⟩
            go_wp2
            go_ret
            exact ⟨by simp, (Below.refl _ _).alloc (Nat.le_refl _) _⟩
          · skip
            cases b5
            · skip
              go_enter Try.func73, Try.ntmps73
              go_wp2_with fail
              refine (c1.out _).mono ?_
              rintro e w' ⟨rfl, rfl⟩
              go_wp2_with fail
              refine (c2.out _).mono ?_
              rintro e w' ⟨rfl, rfl⟩
              go_wp2_with fail
              refine (c3.out _).mono ?_
              rintro e w' ⟨rfl, rfl⟩
              go_wp2_with fail
              refine (c4.out _).mono ?_
              rintro e w' ⟨rfl, rfl⟩
              go_wp2_with fail
              refine (c5.out _).mono ?_
              rintro e w' ⟨rfl, rfl⟩
              go_wp2
              go_ret
              exact ⟨by simp, (Below.refl _ _).alloc (Nat.le_refl _) _⟩
            · skip
              cases b6
              · skip
                go_enter Try.func73, Try.ntmps73
                go_wp2_with fail
                refine (c1.out _).mono ?_
                rintro e w' ⟨rfl, rfl⟩
                go_wp2_with fail
                refine (c2.out _).mono ?_
                rintro e w' ⟨rfl, rfl⟩
                go_wp2_with fail
                refine (c3.out _).mono ?_
                rintro e w' ⟨rfl, rfl⟩
                go_wp2_with fail
                refine (c4.out _).mono ?_
                rintro e w' ⟨rfl, rfl⟩
                go_wp2_with fail
                refine (c5.out _).mono ?_
                rintro e w' ⟨rfl, rfl⟩
                go_wp2_with fail
                refine (c6.out _).mono ?_
                rintro e w' ⟨rfl, rfl⟩
                go_wp2
                go_ret
                exact ⟨by simp, (Below.refl _ _).alloc (Nat.le_refl _) _⟩
              · skip
                go_enter Try.func73, Try.ntmps73
                go_wp2_with fail
                refine (c1.out _).mono ?_
                rintro e w' ⟨rfl, rfl⟩
                go_wp2_with fail
                refine (c2.out _).mono ?_
                rintro e w' ⟨rfl, rfl⟩
                go_wp2_with fail
                refine (c3.out _).mono ?_
                rintro e w' ⟨rfl, rfl⟩
                go_wp2_with fail
                refine (c4.out _).mono ?_
                rintro e w' ⟨rfl, rfl⟩
                go_wp2_with fail
                refine (c5.out _).mono ?_
                rintro e w' ⟨rfl, rfl⟩
                go_wp2_with fail
                refine (c6.out _).mono ?_
                rintro e w' ⟨rfl, rfl⟩
                go_wp2
                go_ret
                exact ⟨by simp, (Below.refl _ _).alloc (Nat.le_refl _) _⟩
end Go.Proofs.Ytlafkpaljibonaa

namespace Go.Proofs.Ytlafkpaljibonaa
open Go.RowKit

def zeroSlot : PSlot := ⟨0, false, 0, 0, 0, 0, ⟨#[]⟩⟩
/-- New's foreman, its first k slots laid. -/
def rawTo (c : Cfg) (k : Nat) : PM := ⟨c, 0, fun _ => ⟨false, ⟨#[]⟩, []⟩, [], fun i => if i < k then newSlot 0 else zeroSlot⟩
def rawPM (c : Cfg) : PM := ⟨c, 0, fun _ => ⟨false, ⟨#[]⟩, []⟩, [], fun _ => newSlot 0⟩
def newPM (c : Cfg) : PM := (rawPM c).settle
def nilV : Nat → Value := fun _ => .slice none 0 0

theorem rawTo_succ (c : Cfg) (k : Nat) : { rawTo c k with slot := upd (rawTo c k).slot k (newSlot 0) } = rawTo c (k + 1) := by
  simp only [rawTo, PM.mk.injEq, true_and]
  funext i
  simp only [upd]
  by_cases h1 : i = k
  · subst h1; simp
  · simp only [h1, if_false]
    by_cases h2 : i < k
    · simp [h2, show i < k + 1 from by omega]
    · simp [h2, show ¬ i < k + 1 from by omega]

theorem FMem.raw {o : Nat → Tag} {q : Nat} {w : World} (hc : Clean o w) (c : Cfg) (h6 : c.ch ≤ 6) :
    FMem (upd o w.heap.size (q, 1)) q (w.alloc (.cells (fcells (rawTo c 0) nilV (.slice none 0 0)).toArray 103)) w.heap.size (rawTo c 0) nilV (.slice none 0 0) := by
  refine ⟨?_, upd_same _ _ _, Blk.made w _ _, fun k hk => Row.nil _ _ _ _ _, Row.nil _ _ _ _ _, h6⟩
  intro g hg
  have h1 : w.heap.size + 1 ≤ g := by simpa using hg
  rw [upd_other _ _ (by omega)]
  exact hc g (by omega)

theorem Fr.made {o : Nat → Tag} {q : Nat} {w w' : World} (t : Tag) (hb : Below w.heap.size w w') (hc : Clean (upd o w.heap.size t) w') : Fr q o w (upd o w.heap.size t) w' :=
  ⟨hb.os, hb.tape, hb.output, hb.size, hc, fun g hg => upd_other _ _ (by omega), fun g hg _ => hb.block g hg⟩

section
variable {o : Nat → Tag} {q : Nat} {w : World} {b : Nat} {m : PM} {sv : Nat → Value} {rv : Value}

set_option maxRecDepth 100000 in
set_option maxHeartbeats 1000000 in
theorem new_no (c : Cfg) (w : World) (h : c.ok = false) :
    Calls Try.prog 49 #[c.val] w fun r w' => r = .returned (.tuple #[.pointer none, .int .i64 1]) ∧ Below w.heap.size w w' := by
  have hc : Hid (∀ w, Calls Try.prog 73 #[c.val] w fun r w' => r = .returned (.bool false) ∧ Below w.heap.size w w') := fun w => h ▸ mayBe_any c w
  unfold Cfg.val at *
  go_enter Try.func49, Try.ntmps49
  go_wp2_with fail
  refine (hc.out _).mono ?_
  rintro e w1 ⟨rfl, hb⟩
  go_wp2
  go_ret2
  exact ⟨rfl, ((Below.refl _ _).alloc (Nat.le_refl _) _).trans (hb.mono (by simp))⟩

set_option maxRecDepth 100000 in
set_option maxHeartbeats 2000000 in
theorem new_yes (c : Cfg) (w : World) (ho : Clean o w) (h : c.ok = true) :
    Calls Try.prog 49 #[c.val] w fun r w' => ∃ b o', r = .returned (.tuple #[.pointer (some ⟨b, 0, none⟩), .int .i64 0]) ∧ FMem o' q w' b (newPM c) nilV (.slice none 0 0) ∧ Fr q o w o' w' := by
  have hc : Hid (∀ w, Calls Try.prog 73 #[c.val] w fun r w' => r = .returned (.bool true) ∧ Below w.heap.size w w') := fun w => h ▸ mayBe_any c w
  have h6 : c.ch ≤ 6 := by simp only [Cfg.ok, Bool.and_eq_true, decide_eq_true_eq] at h; omega
  have hset : c = ⟨c.ch, c.dyn, c.mn, c.mx, c.mr, c.tmo, c.bl⟩ := rfl
  unfold Cfg.val at *
  clear hset
  go_enter Try.func49, Try.ntmps49
  go_wp2_with fail
  have hb0 : Below w.heap.size w (w.alloc (.cells #[.int .i64 c.ch, .bool c.dyn, .int .i64 c.mn, .int .i64 c.mx, .int .i64 c.mr, .int .i64 c.tmo, .int .i64 c.bl] 44)) := (Below.refl _ _).alloc (Nat.le_refl _) _
  have hk0 := Blk.made w 44 c.cells
  have e0 : (w.alloc (.cells c.cells.toArray 44)).heap.size = w.heap.size + 1 := by simp
  refine (hc.out _).mono ?_
  rintro e w1 ⟨rfl, hb⟩
  have hk1 := hk0.below hb
  have d0 := hk1.cell (k := 0) (u := .int .i64 c.ch) rfl
  have d1 := hk1.cell (k := 1) (u := .bool c.dyn) rfl
  have d2 := hk1.cell (k := 2) (u := .int .i64 c.mn) rfl
  have d3 := hk1.cell (k := 3) (u := .int .i64 c.mx) rfl
  have d4 := hk1.cell (k := 4) (u := .int .i64 c.mr) rfl
  have d5 := hk1.cell (k := 5) (u := .int .i64 c.tmo) rfl
  have d6 := hk1.cell (k := 6) (u := .int .i64 c.bl) rfl
  have hb1 : Below w.heap.size w w1 := hb0.trans (hb.mono (by simp))
  have ho1 : Clean o w1 := ho.le hb1.size
  clear hk0 hk1 hb0 hb
  go_wp2
  have hm0 := FMem.raw (q := q) ho1 c h6
  have fr0 := (Fr.of_below (q := q) ho hb1).trans (Fr.made (q := q) (w' := w1.alloc (.cells (fcells (rawTo c 0) nilV (.slice none 0 0)).toArray 103)) (q, 1) ((Below.refl w1.heap.size w1).alloc (Nat.le_refl _) _) hm0.clean)
  generalize ho2 : upd o w1.heap.size (q, 1) = o1 at *
  clear ho2
  go_loopw [12] (fun i w' => ∃ k : Nat, k ≤ 6 ∧ i = .int .i64 k ∧ FMem o1 q w' w1.heap.size (rawTo c k) nilV (.slice none 0 0) ∧ Fr q o w o1 w') (fun i _ => 6 - (intOf i).toNat)
  case atStart => exact ⟨0, by omega, rfl, hm0, fr0⟩
  case round =>
    obtain ⟨k, hk, rfl, hm, hfr⟩ := hrel
    clear d0 d1 d2 d3 d4 d5 d6 hm0 fr0
    by_cases hlt : k < 6
    · have hmd := hm.below (Below.refl _ _).drew
      go_wp2
      go_region_held3 (fun w' => True) (trivial) (first | (go_at_call 74; refine (newPlace_any _ _).mono ?_; rintro e w2 ⟨rfl, hb2⟩; have hm2 := hmd.below hb2; obtain ⟨d0, d1, d2, d3, d4, d5, d6⟩ := hm2.slotc hlt; have fz := hm2.frozen))
      go_wp2
      have fr2 : Fr q o w o1 w2 := hfr.trans ((Fr.of_below hm.clean (Below.refl _ _).drew).trans (Fr.of_below hmd.clean hb2))
      have hm3 := hm2.putSlot hlt (newSlot 0)
      rw [rawTo_succ] at hm3
      refine ⟨⟨k + 1, by omega, by go_num, hm3, ?_⟩, by simp [intOf]; omega⟩
      exact fr2.trans (hm2.fr_put hm3 (by simp [World.setCell]) (by simp [World.setCell]) (by simp [World.setCell]) (by simp [World.setCell]) (by intro g hg; repeat rw [Below.heap_setCell _ _ _ g (by simpa using hg)]))
    · have : k = 6 := by omega
      subst this
      go_wp2_with fail
      have hm6 : FMem o1 q wr w1.heap.size (rawPM c) nilV (.slice none 0 0) := ⟨hm.clean, hm.tag, hm.blk, hm.sent, hm.reqs, hm.few⟩
      refine (settle_any hm6).mono ?_
      rintro e w2 ⟨rfl, hm2, fr2⟩
      go_wp2
      go_ret2
      exact ⟨_, o1, rfl, hm2, hfr.trans fr2⟩

def keyCells (l : List (Int × Int)) : List Value := l.flatMap fun k => [.int .i64 k.1, .int .i64 k.2]
def PM.waits (m : PM) : List (Int × Int) := (m.req.filter fun r => r.stage == 1).map fun r => (r.conn, r.id)

theorem keyCells_append (a b : List (Int × Int)) : keyCells (a ++ b) = keyCells a ++ keyCells b := by simp [keyCells]
theorem keyCells_length (l : List (Int × Int)) : (keyCells l).length = l.length * 2 := by
  induction l with
  | nil => rfl
  | cons r l ih => simp [keyCells] at *; omega
theorem keyCells_one (l : List (Int × Int)) : ∀ u ∈ keyCells l, u.oneCell' = true := by
  intro u hu
  simp only [keyCells, List.mem_flatMap] at hu
  obtain ⟨r, _, hr⟩ := hu
  simp only [List.mem_cons, List.not_mem_nil, or_false] at hr
  rcases hr with rfl | rfl <;> rfl

theorem news_key (W : World) (g : Nat) (hg : W.heap.size = g) (x y : Int) (T : TypeId) : ∀ j u, (keyCells [(x, y)])[j]? = some u → (W.alloc (.cells #[.int .i64 x, .int .i64 y] T)).cell? ((⟨g, 0, none⟩ : Addr).add j) = some u := by
  subst hg
  exact World.news_of_block (heap_alloc_new W _)

theorem infoKey : (Try.prog.info? 109).map (fun i => (i.zero, i.size, i.bytes)) = some (some (.agg #[.int .i64 0, .int .i64 0]), 2, 16) := by kernel_rfl

set_option maxRecDepth 100000 in
set_option maxHeartbeats 2000000 in
theorem backlog_any (h : FMem o q w b m sv rv) (hmax : m.req.length ≤ 1000000000000) :
    Calls Try.prog 31 #[.pointer (some ⟨b, 0, none⟩)] w fun r w' => ∃ v, r = .returned v ∧ w'.ownsRow w.heap.size 109 2 v m.waits.length (keyCells m.waits) ∧ Below w.heap.size w w' := by
  obtain ⟨i0, hi, hz0, hz1, hz2⟩ := info_parts infoKey
  obtain ⟨ao, c, rfl, hn, hrow⟩ := h.list
  have h1 := h.reqv
  go_enter Try.func31, Try.ntmps31
  go_wp2
  go_loopw [3, 11] (fun v i w' => ∃ k : Nat, k ≤ m.req.length ∧ i = .int .i64 k ∧ w'.ownsRow w.heap.size 109 2 v (((m.req.take k).filter fun r => r.stage == 1).map fun r => (r.conn, r.id)).length (keyCells (((m.req.take k).filter fun r => r.stage == 1).map fun r => (r.conn, r.id))) ∧ Below w.heap.size w w') (fun _ i _ => m.req.length - (intOf i).toNat)
  case atStart => exact ⟨0, by omega, rfl, World.ownsRow_nil _ _ _ _, Below.refl _ _⟩
  case round =>
    obtain ⟨k, hk, rfl, hown, hb⟩ := hrel
    have hbase := hb.size
    by_cases hlt : k < m.req.length
    · obtain ⟨g, rfl, hg, -, -, c0, c1, c2, c3⟩ := hrow k hlt
      have hst := List.take_succ_eq_append_getElem hlt
      have HS : Hid _ := hst
      have hll : ((m.req.take k).filter fun r => r.stage == 1).length ≤ k := Nat.le_trans (List.length_filter_le _ _) (by rw [List.length_take]; omega)
      clear hst hrow
      rw [← hb.cell (by exact hg)] at c0 c1 c2 c3
      generalize hacc : (List.map (fun (r : Req) => (r.conn, r.id)) (List.filter (fun r => r.stage == 1) (List.take k m.req))) = acc at *
      have HA : Hid _ := hacc
      have hal : acc.length ≤ k := by rw [← hacc]; simpa using hll
      clear hacc hll
      generalize m.req[k] = r at *
      by_cases h1 : r.stage = 1
      · rw [h1] at c2
        go_wp2_with (at_builtin; refine wpList_append_own _ rfl _ _ 61 rfl w.heap.size 109 i0 (.agg #[.int .i64 0, .int .i64 0]) 2 16 Try.underlying61 hi hz0 hz1 hz2 rfl (by omega) u3 acc.length (keyCells acc) rfl ?hown ⟨wr.heap.size + 1, 0, none⟩ 1 1 (keyCells [(r.conn, r.id)]) rfl rfl ?hnews ?h1 ?h63 ?hbytes ?hbase ?_)
        case hown => exact (hown.alloc _).alloc _
        case hnews => exact news_key _ _ (by simp) _ _ _
        case h1 => exact keyCells_one _
        case h63 => unfold maxLen; omega
        case hbytes => omega
        case hbase => simp; omega
        intro v' w2 hown2 hgrow _
        go_wp2
        refine ⟨⟨k + 1, by omega, by go_num, ?_, ?_⟩, by simp [intOf]; omega⟩
        · rw [HS.out, List.filter_append, List.map_append, show List.filter (fun r => r.stage == 1) [r] = [r] from by simp [List.filter, h1], HA.out, keyCells_append]
          simpa using hown2
        · refine ((hb.alloc hbase _).alloc (by simp; omega) _).grown hgrow (by simp; omega) ?_
          intro x hx
          exact (hown.lt x hx).1
      · have h2 : (r.stage == 1) = false := by simpa using h1
        go_wp2
        refine ⟨⟨k + 1, by omega, by go_num, ?_, hb.alloc hbase _⟩, by simp [intOf]; omega⟩
        rw [HS.out, List.filter_append, List.map_append, show List.filter (fun r => r.stage == 1) [r] = [] from by simp [List.filter, h2], HA.out]
        simpa using hown.alloc _
    · have : k = m.req.length := by omega
      subst this
      go_wp2
      go_ret
      rw [List.take_length] at hown
      exact ⟨_, rfl, hown, hb⟩

end
end Go.Proofs.Ytlafkpaljibonaa

namespace Go.Proofs.Ytlafkpaljibonaa
open Go.RowKit

theorem own_mono {w : World} {base base' : Nat} {e : TypeId} {size : Nat} {v : Value} {n : Nat} {l : List Value} (h : w.ownsRow base e size v n l) (hb : base' ≤ base) : w.ownsRow base' e size v n l := by
  obtain ⟨h1, h2⟩ := h
  refine ⟨h1, ?_⟩
  rcases h2 with h2 | ⟨g, cap, cur, hv, hg, r⟩
  · exact .inl h2
  · exact .inr ⟨g, cap, cur, hv, Nat.le_trans hb hg, r⟩

theorem own_keepAt {w w' : World} {base base' : Nat} {e : TypeId} {size n : Nat} {v : Value} {xs : List Value} (h : w.ownsRow base e size v n xs) (hb : ∀ g, v.ownBlock = some g → w'.heap[g]? = w.heap[g]?) (hbb : base' ≤ base) : w'.ownsRow base' e size v n xs := by
  refine own_mono ⟨h.1, ?_⟩ hbb
  rcases h.2 with h2 | ⟨g, cap, cur, rfl, hg, hh, r⟩
  · exact .inl h2
  · exact .inr ⟨g, cap, cur, rfl, hg, by rw [hb g rfl]; exact hh, r⟩

theorem own_slice {w : World} {base : Nat} {e : TypeId} {size n : Nat} {v : Value} {xs : List Value} (h : w.ownsRow base e size v n xs) :
    ∃ ao c, v = .slice ao n c ∧ (n : Int) ≤ 9223372036854775807 ∧ (0 < n → ∃ g, ao = some ⟨g, 0, none⟩ ∧ base ≤ g ∧ g < w.heap.size) := by
  rcases h.2 with ⟨rfl, rfl⟩ | ⟨g, cap, cur, rfl, hb, hg, hn, hc, hs, ht⟩
  · exact ⟨_, _, rfl, by omega, by omega⟩
  · exact ⟨_, _, rfl, by simp only [maxLen] at hc; omega, fun _ => ⟨g, rfl, hb, (Array.getElem?_eq_some_iff.1 hg).1⟩⟩

theorem keyCells_get (W : List (Int × Int)) (j : Nat) (h : j < W.length) : (keyCells W)[j * 2]? = some (.int .i64 W[j].1) ∧ (keyCells W)[j * 2 + 1]? = some (.int .i64 W[j].2) := by
  induction W generalizing j with
  | nil => simp at h
  | cons r l ih =>
    have e : keyCells (r :: l) = .int .i64 r.1 :: .int .i64 r.2 :: keyCells l := by simp [keyCells]
    cases j with
    | zero => simp [e]
    | succ j =>
      have := ih j (by simpa using h)
      rw [e, show (j + 1) * 2 = j * 2 + 1 + 1 from by omega]
      simpa using this

theorem ba_nil (a : ByteArray) : a ++ ⟨#[]⟩ = a := by
  have : (⟨#[]⟩ : ByteArray) = ByteArray.empty := rfl
  rw [this, ByteArray.append_empty]

theorem nil_ba (a : ByteArray) : ⟨#[]⟩ ++ a = a := by
  have : (⟨#[]⟩ : ByteArray) = ByteArray.empty := rfl
  rw [this, ByteArray.empty_append]

theorem encB_size (k i : Int) (c : ByteArray) : (encB k i c).size ≤ 208 := by
  unfold encB
  split
  · rename_i h
    obtain ⟨-, -, -, -, -, h5⟩ := allowedB_bd h
    simp only [enc, strOfNums_size, List.length_append, nums_length, List.length_cons, List.length_nil]
    omega
  · decide

theorem below_dN {B : Nat} {w w' : World} {m : Nat} (h : Below B w w') : Below B w (w'.drewN m) := ⟨h.os, h.tape, h.output, h.size, h.block⟩

end Go.Proofs.Ytlafkpaljibonaa

namespace Go.Proofs.Ytlafkpaljibonaa
open Go.RowKit

def isKey (c i : Int) (r : Req) : Bool := r.conn == c && r.id == i
def withoutL (l : List Req) (c i : Int) : List Req := l.filter fun r => !isKey c i r

theorem infoReq : (Try.prog.info? 111).map (fun i => (i.zero, i.size, i.bytes)) = some (some (.agg #[.int .i64 0, .int .i64 0, .int .i64 0, .string ⟨#[]⟩]), 4, 40) := by kernel_rfl

theorem reqCells_append (a b : List Req) : reqCells (a ++ b) = reqCells a ++ reqCells b := by simp [reqCells]
theorem reqCells_one (l : List Req) : ∀ u ∈ reqCells l, u.oneCell' = true := by
  intro u hu
  simp only [reqCells, List.mem_flatMap] at hu
  obtain ⟨r, _, hr⟩ := hu
  simp only [Req.cells, List.mem_cons, List.not_mem_nil, or_false] at hr
  rcases hr with rfl | rfl | rfl | rfl <;> rfl
theorem news_req (W : World) (g : Nat) (hg : W.heap.size = g) (r : Req) (T : TypeId) : ∀ j u, (reqCells [r])[j]? = some u → (W.alloc (.cells #[.int .i64 r.conn, .int .i64 r.id, .int .i64 r.stage, .string r.body] T)).cell? ((⟨g, 0, none⟩ : Addr).add j) = some u := by
  subst hg
  exact World.news_of_block (heap_alloc_new W _)

/-- A list of requests that lies in memory, whosever it is. -/
def ReqsAt (w : World) (v : Value) (l : List Req) : Prop :=
  ∃ ao c, v = .slice ao l.length c ∧ (l.length : Int) ≤ 9223372036854775807 ∧
    ∀ k (hk : k < l.length), ∃ g, ao = some ⟨g, 0, none⟩ ∧ g < w.heap.size ∧
    w.cell? ⟨g, k * 4, none⟩ = some (.int .i64 l[k].conn) ∧ w.cell? ⟨g, k * 4 + 1, none⟩ = some (.int .i64 l[k].id) ∧ w.cell? ⟨g, k * 4 + 2, none⟩ = some (.int .i64 l[k].stage) ∧ w.cell? ⟨g, k * 4 + 3, none⟩ = some (.string l[k].body)

theorem FMem.reqsAt {o : Nat → Tag} {q : Nat} {w : World} {b : Nat} {m : PM} {sv : Nat → Value} {rv : Value} (h : FMem o q w b m sv rv) : ReqsAt w rv m.req := by
  obtain ⟨ao, c, h1, h2, h3⟩ := h.list
  refine ⟨ao, c, h1, h2, fun k hk => ?_⟩
  obtain ⟨g, e, hg, -, -, hc⟩ := h3 k hk
  exact ⟨g, e, hg, hc⟩

set_option maxRecDepth 100000 in
set_option maxHeartbeats 2000000 in
theorem without_any (w : World) (rv : Value) (l : List Req) (h : ReqsAt w rv l) (c i : Int) (hmax : l.length ≤ 1000000000000) :
    Calls Try.prog 110 #[rv, .agg #[.int .i64 c, .int .i64 i]] w fun r w' => ∃ v, r = .returned v ∧ w'.ownsRow w.heap.size 111 4 v (withoutL l c i).length (reqCells (withoutL l c i)) ∧ Below w.heap.size w w' := by
  obtain ⟨i0, hi, hz0, hz1, hz2⟩ := info_parts infoReq
  obtain ⟨ao, cap, rfl, hn, hrow⟩ := h
  go_enter Try.func110, Try.ntmps110
  go_wp2
  have x0 := Blk.made w 109 [.int .i64 c, .int .i64 i]
  go_loopw [5, 10] (fun v j w' => ∃ k : Nat, k ≤ l.length ∧ j = .int .i64 k ∧ w'.ownsRow (w.heap.size + 1) 111 4 v (withoutL (l.take k) c i).length (reqCells (withoutL (l.take k) c i)) ∧ Blk w' w.heap.size 109 [.int .i64 c, .int .i64 i] ∧ Below w.heap.size w w') (fun _ j _ => l.length - (intOf j).toNat)
  case atStart => exact ⟨0, by omega, rfl, World.ownsRow_nil _ _ _ _, x0, (Below.refl _ _).alloc (Nat.le_refl _) _⟩
  case round =>
    clear x0
    obtain ⟨k, hk, rfl, hown, hx, hb⟩ := hrel
    have hbase : w.heap.size < wr.heap.size := hx.lt
    by_cases hlt : k < l.length
    · obtain ⟨g, rfl, hg, c0, c1, c2, c3⟩ := hrow k hlt
      have hst := List.take_succ_eq_append_getElem hlt
      have HS : Hid _ := hst
      have hll : (withoutL (l.take k) c i).length ≤ k := Nat.le_trans (List.length_filter_le _ _) (by rw [List.length_take]; omega)
      clear hst hrow
      rw [← hb.cell (by exact hg)] at c0 c1 c2 c3
      generalize hacc : withoutL (l.take k) c i = acc at *
      have HA : Hid _ := hacc
      clear hacc
      generalize l[k] = r at *
      have y0 := fun ob => (hx.below ((Below.refl _ _).alloc (Nat.le_refl _) ob)).cell (k := 0) (u := .int .i64 c) rfl
      have y1 := fun ob => (hx.below ((Below.refl _ _).alloc (Nat.le_refl _) ob)).cell (k := 1) (u := .int .i64 i) rfl
      have hfa : withoutL (l.take k ++ [r]) c i = withoutL (l.take k) c i ++ withoutL [r] c i := by simp [withoutL]
      have HF : Hid _ := hfa
      clear hfa
      by_cases h1 : r.conn = c ∧ r.id = i
      · obtain ⟨rfl, rfl⟩ := h1
        go_wp2
        refine ⟨⟨k + 1, by omega, by go_num, ?_, hx.below ((Below.refl _ _).alloc (Nat.le_refl _) _), hb.alloc (by omega) _⟩, by simp [intOf]; omega⟩
        rw [HS.out, HF.out, HA.out, show withoutL [r] r.conn r.id = [] from by simp [withoutL, isKey], List.append_nil]
        exact hown.alloc _
      · have h2 : ¬ (r.conn = c) ∨ ¬ (r.id = i) := by omega
        have h3 : isKey c i r = false := by simp only [isKey, Bool.and_eq_false_iff, beq_eq_false_iff_ne]; exact h2
        have H3 : Hid _ := h3
        clear h3
        by_cases hcc : r.conn = c
        · have hii : ¬ r.id = i := by omega
          clear h2 h1
          subst hcc
          go_wp2_with (at_builtin; refine wpList_append_own _ rfl _ _ 98 rfl (w.heap.size + 1) 111 i0 (.agg #[.int .i64 0, .int .i64 0, .int .i64 0, .string ⟨#[]⟩]) 4 40 Try.underlying98 hi hz0 hz1 hz2 rfl (by omega) u5 acc.length (reqCells acc) rfl ?hown ⟨wr.heap.size + 1, 0, none⟩ 1 1 (reqCells [r]) rfl rfl ?hnews ?h1 ?h63 ?hbytes ?hbase ?_)
          case hown => exact (hown.alloc _).alloc _
          case hnews => exact news_req _ _ (by simp) _ _
          case h1 => exact reqCells_one _
          case h63 => unfold maxLen; omega
          case hbytes => omega
          case hbase => simp; omega
          intro v' w2 hown2 hgrow _
          go_wp2
          have hne : some w.heap.size ≠ u5.ownBlock := by intro e; have := (hown.lt _ e.symm).1; omega
          refine ⟨⟨k + 1, by omega, by go_num, ?_, ?_, ?_⟩, by simp [intOf]; omega⟩
          · rw [HS.out, HF.out, HA.out, show withoutL [r] r.conn i = [r] from by simp [withoutL, H3.out], reqCells_append]
            simpa using hown2
          · exact hx.keep ((hgrow.block _ (by simp; omega) hne).trans ((Below.heap_alloc _ _ _ (by simp; omega)).trans (Below.heap_alloc _ _ _ (by omega))))
          · refine ((hb.alloc (by omega) _).alloc (by simp; omega) _).grown hgrow (by simp; omega) ?_
            intro y hy
            have := (hown.lt y hy).1
            omega
        · clear h2 h1
          go_wp2_with (at_builtin; refine wpList_append_own _ rfl _ _ 98 rfl (w.heap.size + 1) 111 i0 (.agg #[.int .i64 0, .int .i64 0, .int .i64 0, .string ⟨#[]⟩]) 4 40 Try.underlying98 hi hz0 hz1 hz2 rfl (by omega) u5 acc.length (reqCells acc) rfl ?hown ⟨wr.heap.size + 1, 0, none⟩ 1 1 (reqCells [r]) rfl rfl ?hnews ?h1 ?h63 ?hbytes ?hbase ?_)
          case hown => exact (hown.alloc _).alloc _
          case hnews => exact news_req _ _ (by simp) _ _
          case h1 => exact reqCells_one _
          case h63 => unfold maxLen; omega
          case hbytes => omega
          case hbase => simp; omega
          intro v' w2 hown2 hgrow _
          go_wp2
          have hne : some w.heap.size ≠ u5.ownBlock := by intro e; have := (hown.lt _ e.symm).1; omega
          refine ⟨⟨k + 1, by omega, by go_num, ?_, ?_, ?_⟩, by simp [intOf]; omega⟩
          · rw [HS.out, HF.out, HA.out, show withoutL [r] c i = [r] from by simp [withoutL, H3.out], reqCells_append]
            simpa using hown2
          · exact hx.keep ((hgrow.block _ (by simp; omega) hne).trans ((Below.heap_alloc _ _ _ (by simp; omega)).trans (Below.heap_alloc _ _ _ (by omega))))
          · refine ((hb.alloc (by omega) _).alloc (by simp; omega) _).grown hgrow (by simp; omega) ?_
            intro y hy
            have := (hown.lt y hy).1
            omega
    · have : k = l.length := by omega
      subst this
      go_wp2
      go_ret
      rw [List.take_length] at hown
      exact ⟨_, rfl, own_keepAt hown (fun _ _ => rfl) (by omega), hb⟩

section
variable {o : Nat → Tag} {q : Nat} {w : World} {b : Nat} {m : PM} {sv : Nat → Value} {rv : Value}

/-- The list of requests is another from now on: one that was just made. -/
theorem FMem.newReq {w1 : World} (h : FMem o q w b m sv rv) (hb : Below w.heap.size w w1) (v : Value) (l : List Req) (own : w1.ownsRow w.heap.size 111 4 v l.length (reqCells l)) :
    ∃ o', FMem o' q (w1.setCell ⟨b, 20, none⟩ v) b { m with req := l } sv v ∧ Fr q o w o' (w1.setCell ⟨b, 20, none⟩ v) := by
  have hbl := h.blk.lt
  have hlt := own.lt
  let o' : Nat → Tag := fun g => if v.ownBlock = some g then (q, 6) else o g
  have oold : ∀ g, g < w.heap.size → o' g = o g := by
    intro g hg
    have : ¬ v.ownBlock = some g := by intro e; have := (hlt g e).1; omega
    simp only [o', if_neg this]
  have hsz : (w1.setCell ⟨b, 20, none⟩ v).heap.size = w1.heap.size := by simp [World.setCell]
  have hcl : Clean o' (w1.setCell ⟨b, 20, none⟩ v) := by
    intro g hg
    rw [hsz] at hg
    have : ¬ v.ownBlock = some g := by intro e; have := (hlt g e).2; omega
    simp only [o', if_neg this]
    exact h.clean g (Nat.le_trans hb.size hg)
  have hoth : ∀ g, g < w.heap.size → g ≠ b → (w1.setCell ⟨b, 20, none⟩ v).heap[g]? = w.heap[g]? := by
    intro g hg hne
    rw [Below.heap_setCell _ _ _ g hne]; exact hb.block g hg
  refine ⟨o', ⟨hcl, (oold b hbl).trans h.tag, ?_, fun k hk => ?_, ?_, h.few⟩, ⟨hb.os, hb.tape, hb.output, by rw [hsz]; exact hb.size, hcl, oold, fun g hg hq => hoth g hg ?_⟩⟩
  · have := (h.blk.below hb).set 20 v
    exact this
  · exact (h.sent k hk).keep oold fun g hg ht => hoth g hg (by rintro rfl; rw [h.tag] at ht; simp at ht; omega)
  · refine ⟨own_keepAt own (fun g hg => Below.heap_setCell _ _ _ g (by have := (hlt g hg).1; simp; omega)) (Nat.zero_le _), fun g hg => ?_⟩
    simp only [o', if_pos hg]
  · rintro rfl; rw [h.tag] at hq; exact hq rfl

def PM.slotHas (m : PM) (c i : Int) (k : Nat) : Bool := (m.slot k).conn == c && (m.slot k).id == i
def PM.slotFrom (m : PM) (c i : Int) (k : Nat) : Nat → Option Nat
  | 0 => none
  | n + 1 => cond (m.slotHas c i k) (some k) (m.slotFrom c i (k + 1) n)
def PM.slotOf (m : PM) (c i : Int) : Option Nat := m.slotFrom c i 0 6

theorem PM.slotFrom_lt (m : PM) (c i : Int) (k n a : Nat) (h : m.slotFrom c i k n = some a) : a < k + n := by
  induction n generalizing k with
  | zero => simp [PM.slotFrom] at h
  | succ n ih =>
    simp only [PM.slotFrom] at h
    cases hr : m.slotHas c i k
    · rw [hr] at h
      have := ih (k + 1) h
      omega
    · rw [hr] at h
      simp only [cond_true, Option.some.injEq] at h
      omega

set_option maxRecDepth 100000 in
set_option maxHeartbeats 2000000 in
theorem slotOf_any (h : FMem o q w b m sv rv) (c i : Int) :
    Calls Try.prog 111 #[.pointer (some ⟨b, 0, none⟩), .agg #[.int .i64 c, .int .i64 i]] w fun r w' => r = .returned (fwV (m.slotOf c i)) ∧ Below w.heap.size w w' := by
  have hl := slots_range (h.alloc (.cells #[.int .i64 c, .int .i64 i] 109))
  have hn := slots_info m
  have hi := index_slots m
  unfold PM.slotOf
  generalize slotsCells m = SC at *
  simp only [PSlot.cells] at hi
  have x0 := Blk.made w 109 [.int .i64 c, .int .i64 i]
  go_enter Try.func111, Try.ntmps111
  go_wp2_with (refine wpList_load_mid rfl 101 (.tmp 10) rfl b 21 rfl SC _ hl Try.underlying101 rfl hn ?_)
  go_loopw [12] (fun j w' => ∃ k : Nat, k ≤ 6 ∧ m.slotFrom c i 0 6 = m.slotFrom c i k (6 - k) ∧ j = .int .i64 k ∧ Blk w' w.heap.size 109 [.int .i64 c, .int .i64 i] ∧ Below w.heap.size w w') (fun j _ => 6 - (intOf j).toNat)
  case atStart => exact ⟨0, by omega, rfl, rfl, x0, (Below.refl _ _).alloc (Nat.le_refl _) _⟩
  case round =>
    clear x0 hl hn
    obtain ⟨k, hk, hf, rfl, hx, hb⟩ := hrel
    have HF : Hid _ := hf
    clear hf
    by_cases hlt : k < 6
    · have hik := hi k hlt
      clear hi
      have HS : Hid (m.slotFrom c i k (6 - k) = cond (m.slotHas c i k) (some k) (m.slotFrom c i (k + 1) (6 - (k + 1)))) := by
        rw [show 6 - k = (6 - (k + 1)) + 1 from by omega]; rfl
      have y0 := fun ob => (hx.below ((Below.refl _ _).alloc (Nat.le_refl _) ob)).cell (k := 0) (u := .int .i64 c) rfl
      have y1 := fun ob => (hx.below ((Below.refl _ _).alloc (Nat.le_refl _) ob)).cell (k := 1) (u := .int .i64 i) rfl
      by_cases h1 : (m.slot k).conn = c
      · by_cases h2 : (m.slot k).id = i
        · have HT : Hid (m.slotHas c i k = true) := by show _ = _; simp [PM.slotHas, h1, h2]
          go_wp2
          go_ret2
          refine ⟨?_, hb.alloc (Nat.le_of_lt hx.lt) _⟩
          rw [HF.out, HS.out, HT.out]; rfl
        · have HT : Hid (m.slotHas c i k = false) := by show _ = _; simp [PM.slotHas, h2]
          go_wp2
          refine ⟨⟨k + 1, by omega, ?_, by go_num, hx.below ((Below.refl _ _).alloc (Nat.le_refl _) _), hb.alloc (Nat.le_of_lt hx.lt) _⟩, by simp [intOf]; omega⟩
          rw [HF.out, HS.out, HT.out]; rfl
      · have HT : Hid (m.slotHas c i k = false) := by show _ = _; simp [PM.slotHas, h1]
        go_wp2
        refine ⟨⟨k + 1, by omega, ?_, by go_num, hx.below ((Below.refl _ _).alloc (Nat.le_refl _) _), hb.alloc (Nat.le_of_lt hx.lt) _⟩, by simp [intOf]; omega⟩
        rw [HF.out, HS.out, HT.out]; rfl
    · have : k = 6 := by omega
      subst this
      go_wp2
      go_ret2
      refine ⟨?_, hb⟩
      rw [HF.out]; simp [PM.slotFrom, fwV]
end
end Go.Proofs.Ytlafkpaljibonaa

namespace Go.Proofs.Ytlafkpaljibonaa
open Go.RowKit

def PSlot.forget (s : PSlot) : PSlot := { s with conn := -1, id := 0 }

section
variable {o : Nat → Tag} {q : Nat} {w : World} {b : Nat} {m : PM} {sv : Nat → Value} {rv : Value}

theorem fcells_forget (m : PM) (sv : Nat → Value) (rv : Value) (k : Nat) (hk : k < 6) :
    ((fcells m sv rv).set (21 + k * 7 + 4) (.int .i64 (-1))).set (21 + k * 7 + 5) (.int .i64 0) = fcells { m with slot := upd m.slot k (m.slot k).forget } sv rv := by
  rcases k with _ | _ | _ | _ | _ | _ | k <;> first | rfl | omega

set_option maxRecDepth 100000 in
set_option maxHeartbeats 1000000 in
theorem forgetKey_any (h : FMem o q w b m sv rv) (k : Nat) (hk : k < 6) :
    Calls Try.prog 93 #[.pointer (some ⟨b, 21 + k * 7, none⟩)] w fun r w' => r = .returned (.tuple #[]) ∧ FMem o q w' b { m with slot := upd m.slot k (m.slot k).forget } sv rv ∧ Fr q o w o w' := by
  obtain ⟨-, -, -, -, c4, c5, -⟩ := h.slotc hk
  have fz := h.frozen
  go_enter Try.func93, Try.ntmps93
  go_wp2
  have hoth : ∀ x, x ≠ b → (((w.setCell ⟨b, 21 + k * 7 + 4, none⟩ (.int .i64 (-1))).setCell ⟨b, 21 + k * 7 + 5, none⟩ (.int .i64 0)).heap[x]?) = w.heap[x]? := by
    intro x hx
    repeat rw [Below.heap_setCell _ _ _ x (by simpa using hx)]
  have hbk := (h.blk.set (21 + k * 7 + 4) (.int .i64 (-1))).set (21 + k * 7 + 5) (.int .i64 0)
  rw [fcells_forget m sv rv k hk] at hbk
  have hm1 := h.put hbk (by simp [World.setCell]) hoth (fun _ _ => rfl) rfl
  exact bodyPost_end (v := .tuple #[]) (by simp [results, Try.results93, go_sem]) rfl ⟨rfl, hm1, h.fr_put hm1 (by simp [World.setCell]) (by simp [World.setCell]) (by simp [World.setCell]) (by simp [World.setCell]) hoth⟩

def PM.forgetAt (m : PM) : Option Nat → PM
  | some k => { m with slot := upd m.slot k (m.slot k).forget }
  | none => m
def PM.drop (m : PM) (c i : Int) : PM := { m with req := withoutL m.req c i }.forgetAt (m.slotOf c i)

set_option maxRecDepth 100000 in
set_option maxHeartbeats 2000000 in
theorem drop_any (h : FMem o q w b m sv rv) (c i : Int) (hmax : m.req.length ≤ 1000000000000) :
    Calls Try.prog 100 #[.pointer (some ⟨b, 0, none⟩), .agg #[.int .i64 c, .int .i64 i]] w fun r w' => r = .returned (.tuple #[]) ∧ ∃ o' rv', FMem o' q w' b (m.drop c i) sv rv' ∧ Fr q o w o' w' := by
  unfold PM.drop
  have hA := h.alloc (.cells #[.int .i64 c, .int .i64 i] 109)
  have fr0 := Fr.of_below (q := q) h.clean ((Below.refl w.heap.size w).alloc (Nat.le_refl _) (.cells #[.int .i64 c, .int .i64 i] 109))
  have x0 := Blk.made w 109 [.int .i64 c, .int .i64 i]
  go_enter Try.func100, Try.ntmps100
  go_wp2_with fail
  have x0 : Blk (w.alloc (.cells #[.int .i64 c, .int .i64 i] 109)) w.heap.size 109 [.int .i64 c, .int .i64 i] := x0
  have hlt : w.heap.size < (w.alloc (.cells #[.int .i64 c, .int .i64 i] 109)).heap.size := x0.lt
  generalize w.alloc (.cells #[.int .i64 c, .int .i64 i] 109) = w0 at *
  have y0 := x0.cell (k := 0) (u := .int .i64 c) rfl
  have y1 := x0.cell (k := 1) (u := .int .i64 i) rfl
  have y2 := hA.reqv
  have hAd := hA.below (Below.refl _ _).drew
  refine wp_region_noPanic ?_
  refine wp_region_held_drew (S := fun w' => w'.cell? ⟨w.heap.size, 0, none⟩ = some (.int .i64 c) ∧ w'.cell? ⟨w.heap.size, 1, none⟩ = some (.int .i64 i)) (by kernel_rfl) ⟨y0, y1⟩ (fun hHeld => ?_)
  refine take_at (i := 0) (v := ?_) rfl (by kernel_rfl) (by kernel_rfl) (by kernel_rfl) (fun _ _ _ h => h) (by rfl) ?_ (by assumption) ?_
  rotate_left
  · (intro wx hSw; obtain ⟨x0, x1⟩ := hSw; go_simp; with_reducible rfl)
  simp only [Act.put, List.setIfInBounds_toArray, List.set_cons_zero, List.set_cons_succ]
  refine take_at (i := 1) (v := ?_) rfl (by kernel_rfl) (by kernel_rfl) (by kernel_rfl) (fun _ _ _ h => h) (by rfl) ?_ (by assumption) ?_
  rotate_left
  · (intro wx hSw; obtain ⟨x0, x1⟩ := hSw; go_simp; with_reducible rfl)
  simp only [Act.put, List.setIfInBounds_toArray, List.set_cons_zero, List.set_cons_succ]
  refine take_at (i := 2) (v := ?_) rfl (by kernel_rfl) (by kernel_rfl) (by kernel_rfl) (fun _ _ _ h => h) (by rfl) ?_ (by assumption) ?_
  rotate_left
  · (intro wx hSw; obtain ⟨x0, x1⟩ := hSw; go_simp; with_reducible rfl)
  simp only [Act.put, List.setIfInBounds_toArray, List.set_cons_zero, List.set_cons_succ]
  refine take_at (i := 3) (v := ?_) rfl (by kernel_rfl) (by kernel_rfl) (by kernel_rfl) (fun _ _ _ h => h) (by rfl) ?_ (by assumption) ?_
  rotate_left
  · (intro wx hSw; obtain ⟨x0, x1⟩ := hSw; go_simp; with_reducible rfl)
  simp only [Act.put, List.setIfInBounds_toArray, List.set_cons_zero, List.set_cons_succ]
  refine take_at (i := 5) (v := ?_) rfl (by kernel_rfl) (by kernel_rfl) (by kernel_rfl) (fun _ _ _ h => h) (by rfl) ?_ (by assumption) ?_
  rotate_left
  · (intro wx hSw; obtain ⟨x0, x1⟩ := hSw; go_simp; with_reducible rfl)
  simp only [Act.put, List.setIfInBounds_toArray, List.set_cons_zero, List.set_cons_succ]
  refine only_at (i := 4) rfl (by kernel_rfl) (by rfl) (fun K hK => ?_)
  go_simp
  refine hK.out _ _ ⟨y0, y1⟩ ?_
  clear hK K hHeld
  refine only_at (i := 6) rfl (by kernel_rfl) (by rfl) (fun K hK => ?_)
  go_simp
  refine (without_any _ _ _ hAd.reqsAt c i hmax).mono ?_
  rintro e w1 ⟨v, rfl, own1, hb1⟩
  obtain ⟨av, cv, hv, -, -⟩ := own_slice own1
  subst hv
  have hm1 := hAd.below hb1
  have x1 := (x0.below (Below.refl _ _).drew).below hb1
  have y0' := x1.cell (k := 0) (u := .int .i64 c) rfl
  have y1' := x1.cell (k := 1) (u := .int .i64 i) rfl
  have z0 := hm1.reqv
  have fz := hm1.frozen
  have hne : w.heap.size ≠ b := by have := h.blk.lt; omega
  have hne' : b ≠ w.heap.size := fun e => hne e.symm
  have hS1 : w1.cell? ⟨w.heap.size, 0, none⟩ = some (.int .i64 c) ∧ w1.cell? ⟨w.heap.size, 1, none⟩ = some (.int .i64 i) := ⟨y0', y1'⟩
  refine hK.out _ _ hS1 ?_
  clear hK K y0 y1 y2
  refine take_at (i := 7) (v := ?_) rfl (by kernel_rfl) (by kernel_rfl) (by kernel_rfl) (fun _ _ _ h => h) (by rfl) ?_ (by assumption) ?_
  rotate_left
  · (intro wx hSw; obtain ⟨x0, x1⟩ := hSw; go_simp; with_reducible rfl)
  simp only [Act.put, List.setIfInBounds_toArray, List.set_cons_zero, List.set_cons_succ]
  refine take_at (i := 8) (v := ?_) rfl (by kernel_rfl) (by kernel_rfl) (by kernel_rfl) (fun _ _ _ h => h) (by rfl) ?_ (by assumption) ?_
  rotate_left
  · (intro wx hSw; obtain ⟨x0, x1⟩ := hSw; go_simp; with_reducible rfl)
  simp only [Act.put, List.setIfInBounds_toArray, List.set_cons_zero, List.set_cons_succ]
  refine only_at (i := 9) rfl (by kernel_rfl) (by rfl) (fun K hK => ?_)
  go_simp
  have x2 := x1.keep (w' := w1.setCell ⟨b, 20, none⟩ (.slice av (withoutL m.req c i).length cv)) (Below.heap_setCell _ _ _ _ (by simpa using hne))
  refine hK.out _ _ ⟨x2.cell rfl, x2.cell rfl⟩ ?_
  clear hK K
  refine wpAnyH_done (by kernel_rfl) ?_ _
  refine NoPanic.normal ?_
  obtain ⟨o', hm2, fr2⟩ := hAd.newReq hb1 _ (withoutL m.req c i) own1
  have frA : Fr q o w o' (w1.setCell ⟨b, 20, none⟩ (.slice av (withoutL m.req c i).length cv)) := (fr0.below (Below.refl _ _).drew).trans fr2
  have hslot : Hid ({ m with req := withoutL m.req c i }.slotOf c i = m.slotOf c i) := rfl
  clear z0 fz hS1 y0' y1' own1 hb1 hm1 hAd hA fr0 fr2 x0 x1
  generalize w1.setCell ⟨b, 20, none⟩ (.slice av (withoutL m.req c i).length cv) = w2 at *
  have y0 := x2.cell (k := 0) (u := .int .i64 c) rfl
  have y1 := x2.cell (k := 1) (u := .int .i64 i) rfl
  have hc : Hid (∀ w', FMem o' q w' b { m with req := withoutL m.req c i } sv (.slice av (withoutL m.req c i).length cv) → Calls Try.prog 111 #[.pointer (some ⟨b, 0, none⟩), .agg #[.int .i64 c, .int .i64 i]] w' fun r w'' => r = .returned (fwV (m.slotOf c i)) ∧ Below w'.heap.size w' w'') := fun w' h' => slotOf_any h' c i
  have hk0 := m.slotFrom_lt c i 0 6
  change ∀ a, m.slotOf c i = some a → a < 0 + 6 at hk0
  go_wp2_with fail
  refine (hc.out _ hm2).mono ?_
  rintro e w3 ⟨rfl, hb3⟩
  have hm3 := hm2.below hb3
  clear y0 y1 hc
  cases hs : m.slotOf c i with
  | none =>
    unfold fwV
    go_wp2
    exact bodyPost_end (v := .tuple #[]) (by simp [results, Try.results100, go_sem]) rfl ⟨rfl, o', _, by rw [hs]; exact hm3, frA.below hb3⟩
  | some k =>
    have hk : k < 6 := by have := hk0 k hs; omega
    unfold fwV
    go_wp2_with fail
    refine (forgetKey_any hm3 k hk).mono ?_
    rintro e w4 ⟨rfl, hm4, fr4⟩
    go_wp2
    exact bodyPost_end (v := .tuple #[]) (by simp [results, Try.results100, go_sem]) rfl ⟨rfl, o', _, by rw [hs]; exact hm4, (frA.below hb3).trans fr4⟩
end
end Go.Proofs.Ytlafkpaljibonaa

namespace Go.Proofs.Ytlafkpaljibonaa
open Go.RowKit

def PM.keysOf (m : PM) (c : Int) : List (Int × Int) := (m.req.filter fun r => r.conn == c).map fun r => (r.conn, r.id)

section
variable {o : Nat → Tag} {q : Nat} {w : World} {b : Nat} {m : PM} {sv : Nat → Value} {rv : Value}

set_option maxRecDepth 100000 in
set_option maxHeartbeats 2000000 in
theorem keysOf_any (h : FMem o q w b m sv rv) (cn : Int) (hmax : m.req.length ≤ 1000000000000) :
    Calls Try.prog 99 #[.pointer (some ⟨b, 0, none⟩), .int .i64 cn] w fun r w' => ∃ v, r = .returned v ∧ w'.ownsRow w.heap.size 109 2 v (m.keysOf cn).length (keyCells (m.keysOf cn)) ∧ Below w.heap.size w w' := by
  obtain ⟨i0, hi, hz0, hz1, hz2⟩ := info_parts infoKey
  obtain ⟨ao, c, rfl, hn, hrow⟩ := h.list
  have h1 := h.reqv
  go_enter Try.func99, Try.ntmps99
  go_wp2
  go_loopw [5, 13] (fun v i w' => ∃ k : Nat, k ≤ m.req.length ∧ i = .int .i64 k ∧ w'.ownsRow w.heap.size 109 2 v (((m.req.take k).filter fun r => r.conn == cn).map fun r => (r.conn, r.id)).length (keyCells (((m.req.take k).filter fun r => r.conn == cn).map fun r => (r.conn, r.id))) ∧ Below w.heap.size w w') (fun _ i _ => m.req.length - (intOf i).toNat)
  case atStart => exact ⟨0, by omega, rfl, World.ownsRow_nil _ _ _ _, Below.refl _ _⟩
  case round =>
    obtain ⟨k, hk, rfl, hown, hb⟩ := hrel
    have hbase := hb.size
    by_cases hlt : k < m.req.length
    · obtain ⟨g, rfl, hg, -, -, c0, c1, c2, c3⟩ := hrow k hlt
      have hst := List.take_succ_eq_append_getElem hlt
      have HS : Hid _ := hst
      have hll : ((m.req.take k).filter fun r => r.conn == cn).length ≤ k := Nat.le_trans (List.length_filter_le _ _) (by rw [List.length_take]; omega)
      clear hst hrow
      rw [← hb.cell (by exact hg)] at c0 c1 c2 c3
      generalize hacc : (List.map (fun (r : Req) => (r.conn, r.id)) (List.filter (fun r => r.conn == cn) (List.take k m.req))) = acc at *
      have HA : Hid _ := hacc
      have hal : acc.length ≤ k := by rw [← hacc]; simpa using hll
      clear hacc hll
      generalize m.req[k] = r at *
      by_cases h1 : r.conn = cn
      · subst h1
        go_wp2_with (at_builtin; refine wpList_append_own _ rfl _ _ 61 rfl w.heap.size 109 i0 (.agg #[.int .i64 0, .int .i64 0]) 2 16 Try.underlying61 hi hz0 hz1 hz2 rfl (by omega) u5 acc.length (keyCells acc) rfl ?hown ⟨wr.heap.size + 1, 0, none⟩ 1 1 (keyCells [(r.conn, r.id)]) rfl rfl ?hnews ?h1 ?h63 ?hbytes ?hbase ?_)
        case hown => exact (hown.alloc _).alloc _
        case hnews => exact news_key _ _ (by simp) _ _ _
        case h1 => exact keyCells_one _
        case h63 => unfold maxLen; omega
        case hbytes => omega
        case hbase => simp; omega
        intro v' w2 hown2 hgrow _
        go_wp2
        refine ⟨⟨k + 1, by omega, by go_num, ?_, ?_⟩, by simp [intOf]; omega⟩
        · rw [HS.out, List.filter_append, List.map_append, show List.filter (fun x => x.conn == r.conn) [r] = [r] from by simp [List.filter], HA.out, keyCells_append]
          simpa using hown2
        · refine ((hb.alloc hbase _).alloc (by simp; omega) _).grown hgrow (by simp; omega) ?_
          intro x hx
          exact (hown.lt x hx).1
      · have h2 : (r.conn == cn) = false := by simpa using h1
        go_wp2
        refine ⟨⟨k + 1, by omega, by go_num, ?_, hb.alloc hbase _⟩, by simp [intOf]; omega⟩
        rw [HS.out, List.filter_append, List.map_append, show List.filter (fun r => r.conn == cn) [r] = [] from by simp [List.filter, h2], HA.out]
        simpa using hown.alloc _
    · have : k = m.req.length := by omega
      subst this
      go_wp2
      go_ret
      rw [List.take_length] at hown
      exact ⟨_, rfl, hown, hb⟩

def PM.chk (m : PM) (n : Int) : Int := cond (isC n) (cond (m.con n.toNat).op 0 4) 2

set_option maxRecDepth 100000 in
set_option maxHeartbeats 400000 in
theorem checkOpen_any (h : FMem o q w b m sv rv) (n : Int) :
    Calls Try.prog 57 #[.pointer (some ⟨b, 0, none⟩), .int .i64 n] w fun r w' => r = .returned (.int .i64 (m.chk n)) ∧ w' = w := by
  unfold PM.chk
  rcases isC_cases n with h0 | ⟨h0, k, hk, rfl⟩
  · simp only [h0, cond_false]
    go_enter Try.func57, Try.ntmps57
    go_wp2_with fail
    refine (isConnection_any _ _).mono ?_
    rintro e w1 ⟨rfl, rfl⟩
    rw [h0]
    go_wp2
    go_ret
    exact ⟨rfl, rfl⟩
  · simp only [h0, cond_true, Int.toNat_natCast]
    have h1 := h.op hk
    cases hop : (m.con k).op
    all_goals
      rw [hop] at h1
      simp only [cond_true, cond_false]
      clear hop
      go_enter Try.func57, Try.ntmps57
      go_wp2_with fail
      refine (isConnection_any _ _).mono ?_
      rintro e w1 ⟨rfl, rfl⟩
      rw [h0]
      go_wp2
      go_ret
      exact ⟨rfl, rfl⟩

def PM.shut (m : PM) (k : Nat) : PM := { m with con := upd m.con k { m.con k with op := false, rest := ⟨#[]⟩ } }
def PM.dropAll (m : PM) (l : List (Int × Int)) : PM := l.foldl (fun m k => m.drop k.1 k.2) m
def PM.close (m : PM) (k : Nat) : PM := (m.shut k).dropAll (m.keysOf k)

theorem fcells_shut (m : PM) (sv : Nat → Value) (rv : Value) (k : Nat) (hk : k < 4) :
    ((fcells m sv rv).set (8 + k * 3) (.bool false)).set (8 + k * 3 + 1) (.string ⟨#[]⟩) = fcells (m.shut k) sv rv := by
  rcases k with _ | _ | _ | _ | k <;> first | rfl | omega

theorem drop_req (m : PM) (c i : Int) : (m.drop c i).req = withoutL m.req c i := by
  unfold PM.drop
  cases m.slotOf c i <;> rfl

theorem withoutL_len (l : List Req) (c i : Int) : (withoutL l c i).length ≤ l.length := List.length_filter_le _ _

theorem dropAll_len (l : List (Int × Int)) (m : PM) : (m.dropAll l).req.length ≤ m.req.length := by
  induction l generalizing m with
  | nil => exact Nat.le_refl _
  | cons k l ih =>
    have := ih (m.drop k.1 k.2)
    have h2 := withoutL_len m.req k.1 k.2
    rw [drop_req] at this
    simp only [PM.dropAll, List.foldl_cons] at *
    omega

theorem dropAll_take (m : PM) (l : List (Int × Int)) (j : Nat) (h : j < l.length) : m.dropAll (l.take (j + 1)) = (m.dropAll (l.take j)).drop l[j].1 l[j].2 := by
  unfold PM.dropAll
  rw [List.take_succ_eq_append_getElem h, List.foldl_append]
  rfl

set_option maxRecDepth 100000 in
set_option maxHeartbeats 2000000 in
theorem close_any (h : FMem o q w b m sv rv) (hq : q ≠ 0) (k : Nat) (hk : k < 4) (hmax : m.req.length ≤ 1000000000000) :
    Calls Try.prog 75 #[.pointer (some ⟨b, 0, none⟩), .int .i64 k] w fun r w' => r = .returned (.tuple #[]) ∧ ∃ o' rv', FMem o' q w' b (m.close k) sv rv' ∧ Fr q o w o' w' := by
  have c0 := h.op hk
  have c1 := h.rest hk
  have fz := h.frozen
  have hoth : ∀ x, x ≠ b → (((w.setCell ⟨b, 8 + k * 3, none⟩ (.bool false)).setCell ⟨b, 8 + k * 3 + 1, none⟩ (.string ⟨#[]⟩)).heap[x]?) = w.heap[x]? := by
    intro x hx
    repeat rw [Below.heap_setCell _ _ _ x (by simpa using hx)]
  have hbk := (h.blk.set (8 + k * 3) (.bool false)).set (8 + k * 3 + 1) (.string ⟨#[]⟩)
  rw [fcells_shut m sv rv k hk] at hbk
  have hsent : ∀ j, j < 4 → ((m.shut k).con j).sent = (m.con j).sent := by
    intro j _
    simp only [PM.shut, upd]
    split
    · rename_i e; rw [e]
    · rfl
  have hm1 := h.put hbk (by simp [World.setCell]) hoth hsent rfl
  have fr1 := h.fr_put hm1 (by simp [World.setCell]) (by simp [World.setCell]) (by simp [World.setCell]) (by simp [World.setCell]) hoth
  unfold PM.close
  have hkeys : Hid (m.keysOf k = (m.shut k).keysOf k) := rfl
  rw [hkeys.out]
  have hmax1 : (m.shut k).req.length ≤ 1000000000000 := hmax
  have hkl : ((m.shut k).keysOf k).length ≤ 1000000000000 := by
    have : ((m.shut k).keysOf k).length ≤ (m.shut k).req.length := by simp only [PM.keysOf, List.length_map]; exact List.length_filter_le _ _
    omega
  generalize (m.shut k) = m1 at *
  have hcall : Hid (∀ w', FMem o q w' b m1 sv rv → Calls Try.prog 99 #[.pointer (some ⟨b, 0, none⟩), .int .i64 k] w' fun r w'' => ∃ v, r = .returned v ∧ w''.ownsRow w'.heap.size 109 2 v (m1.keysOf k).length (keyCells (m1.keysOf k)) ∧ Below w'.heap.size w' w'') := fun w' h' => keysOf_any h' k hmax1
  generalize m1.keysOf k = L at *
  clear hbk hsent hkeys
  go_enter Try.func75, Try.ntmps75
  go_wp2_with fail
  refine (hcall.out _ hm1).mono ?_
  rintro e w1 ⟨v, rfl, own, hb1⟩
  have hm2 := hm1.below hb1
  have fr2 := fr1.below hb1
  have hvlt := own.lt
  have hcl := hm1.clean
  obtain ⟨av, cv, hv, hln, hl0⟩ := own_slice own
  subst hv
  clear c0 c1 fz hm1 fr1 hoth hcall
  go_wp2
  go_loopw [24] (fun j w' => ∃ (n : Nat) (o' : Nat → Tag) (rv' : Value), n ≤ L.length ∧ j = .int .i64 n ∧ FMem o' q w' b (m1.dropAll (L.take n)) sv rv' ∧ Fr q o w1 o' w' ∧ w'.ownsRow 0 109 2 (.slice av L.length cv) L.length (keyCells L)) (fun j _ => L.length - (intOf j).toNat)
  case atStart => exact ⟨0, o, rv, by omega, rfl, hm2, Fr.refl hm2.clean, own_mono own (Nat.zero_le _)⟩
  case round =>
    obtain ⟨n, o1, rv1, hn, rfl, hm, hfr, how⟩ := hrel
    by_cases hlt : n < L.length
    · obtain ⟨g, rfl, hg0, hg⟩ := hl0 (by omega)
      have d0 := how.cellAt (n * 2) (by omega)
      have d1 := how.cellAt (n * 2 + 1) (by omega)
      have hget := keyCells_get L n hlt
      rw [hget.1] at d0
      rw [hget.2] at d1
      have HD : Hid _ := dropAll_take m1 L n hlt
      have hlen := dropAll_len (L.take n) m1
      clear hget
      generalize L[n] = K at *
      have hmA := fun ob => hm.alloc ob
      go_wp2_with fail
      refine (drop_any (hm.alloc _) K.1 K.2 (by omega)).mono ?_
      rintro e w2 ⟨rfl, o2, rv2, hm3, fr3⟩
      have frA : Fr q o1 wr o1 _ := Fr.of_below hm.clean ((Below.refl wr.heap.size wr).alloc (Nat.le_refl _) (.cells #[.int .i64 K.1, .int .i64 K.2] 109))
      have fr4 := hfr.trans (frA.trans fr3)
      go_wp2
      refine ⟨⟨n + 1, o2, rv2, by omega, by go_num, by rw [HD.out]; exact hm3, fr4, ?_⟩, by simp [intOf]; omega⟩
      refine own_keepAt own (fun y hy => ?_) (Nat.zero_le _)
      obtain ⟨h1, h2⟩ := hvlt y hy
      refine fr4.block y h2 ?_
      rw [hcl y h1]
      exact fun e => hq e.symm
    · have : n = L.length := by omega
      subst this
      go_wp2
      rw [List.take_length] at hm
      exact bodyPost_end (v := .tuple #[]) (by simp [results, Try.results75, go_sem]) rfl ⟨rfl, o1, rv1, hm, fr2.trans hfr⟩

def PM.connect (m : PM) (k : Nat) : PM := { m with con := upd m.con k ⟨true, ⟨#[]⟩, []⟩ }
def PM.connectE (m : PM) (n : Int) : Int := cond (isC n) (cond (m.con n.toNat).op 3 0) 2
def PM.afterConnect (m : PM) (n : Int) : PM := cond (isC n && !(m.con n.toNat).op) (m.connect n.toNat) m

theorem fcells_connect (m : PM) (sv : Nat → Value) (rv : Value) (k : Nat) (hk : k < 4) :
    (((fcells m sv rv).set (8 + k * 3) (.bool true)).set (8 + k * 3 + 1) (.string ⟨#[]⟩)).set (8 + k * 3 + 2) (.slice none 0 0) = fcells (m.connect k) (upd sv k (.slice none 0 0)) rv := by
  rcases k with _ | _ | _ | _ | k <;> first | rfl | omega

/-- A connection's three cells are written: nothing was sent over it. -/
theorem FMem.putConn (h : FMem o q w b m sv rv) {k : Nat} (hk : k < 4) :
    let w' := ((w.setCell ⟨b, 8 + k * 3, none⟩ (.bool true)).setCell ⟨b, 8 + k * 3 + 1, none⟩ (.string ⟨#[]⟩)).setCell ⟨b, 8 + k * 3 + 2, none⟩ (.slice none 0 0)
    FMem o q w' b (m.connect k) (upd sv k (.slice none 0 0)) rv ∧ Fr q o w o w' := by
  intro w'
  have hoth : ∀ g, g ≠ b → w'.heap[g]? = w.heap[g]? := by
    intro g hg
    simp only [w']
    repeat rw [Below.heap_setCell _ _ _ g (by simpa using hg)]
  have hs : w'.heap.size = w.heap.size := by simp [w', World.setCell]
  have hcl : Clean o w' := h.clean.le (Nat.le_of_eq hs.symm)
  have hm : FMem o q w' b (m.connect k) (upd sv k (.slice none 0 0)) rv := by
    refine ⟨hcl, h.tag, ?_, fun j hj => ?_, ?_, h.few⟩
    · rw [← fcells_connect m sv rv k hk]
      exact ((h.blk.set _ _).set _ _).set _ _
    · by_cases e : j = k
      · subst e
        simp only [PM.connect, upd_same]
        exact Row.nil _ _ _ _ _
      · simp only [PM.connect, upd_other _ _ e]
        exact (h.sent j hj).keep (fun _ _ => rfl) fun g _ hg => hoth g fun e => by rw [e, h.tag] at hg; simp at hg; omega
    · exact h.reqs.keep (fun _ _ => rfl) fun g _ hg => hoth g fun e => by rw [e, h.tag] at hg; simp at hg
  refine ⟨hm, ⟨by simp [w', World.setCell], by simp [w', World.setCell], by simp [w', World.setCell], Nat.le_of_eq hs.symm, hcl, fun _ _ => rfl, fun g _ hg => hoth g (by rintro rfl; rw [h.tag] at hg; exact hg rfl)⟩⟩

set_option maxRecDepth 100000 in
set_option maxHeartbeats 1000000 in
theorem connect_any (h : FMem o q w b m sv rv) (n : Int) :
    Calls Try.prog 24 #[.pointer (some ⟨b, 0, none⟩), .int .i64 n] w fun r w' => r = .returned (.int .i64 (m.connectE n)) ∧ ∃ sv', FMem o q w' b (m.afterConnect n) sv' rv ∧ Fr q o w o w' := by
  unfold PM.connectE PM.afterConnect
  rcases isC_cases n with h0 | ⟨h0, k, hk, rfl⟩
  · simp only [h0, cond_false, Bool.false_and]
    go_enter Try.func24, Try.ntmps24
    go_wp2_with fail
    refine (isConnection_any _ _).mono ?_
    rintro e w1 ⟨rfl, rfl⟩
    rw [h0]
    go_wp2
    go_ret
    exact ⟨rfl, sv, h, Fr.refl h.clean⟩
  · simp only [h0, cond_true, Int.toNat_natCast, Bool.true_and]
    have h1 := h.op hk
    have h2 := h.rest hk
    have h3 := h.sentv hk
    have fz := h.frozen
    have hform := (h.sent k hk).form
    obtain ⟨asv, csv, hsv, -, -⟩ := hform
    rw [hsv] at h3
    cases hop : (m.con k).op
    · rw [hop] at h1
      simp only [cond_true, cond_false, Bool.not_false]
      clear hop
      go_enter Try.func24, Try.ntmps24
      go_wp2_with fail
      refine (isConnection_any _ _).mono ?_
      rintro e w1 ⟨rfl, rfl⟩
      rw [h0]
      go_wp2
      go_ret
      have := h.putConn hk
      exact ⟨rfl, _, this.1, this.2⟩
    · rw [hop] at h1
      simp only [cond_true, cond_false, Bool.not_true]
      clear hop
      go_enter Try.func24, Try.ntmps24
      go_wp2_with fail
      refine (isConnection_any _ _).mono ?_
      rintro e w1 ⟨rfl, rfl⟩
      rw [h0]
      go_wp2
      go_ret
      exact ⟨rfl, sv, h, Fr.refl h.clean⟩

def PM.afterHangup (m : PM) (n : Int) : PM := cond (m.chk n == 0) (m.close n.toNat) m

set_option maxRecDepth 100000 in
set_option maxHeartbeats 1000000 in
theorem hangup_any (h : FMem o q w b m sv rv) (hq : q ≠ 0) (n : Int) (hmax : m.req.length ≤ 1000000000000) :
    Calls Try.prog 50 #[.pointer (some ⟨b, 0, none⟩), .int .i64 n] w fun r w' => r = .returned (.int .i64 (m.chk n)) ∧ ∃ o' rv', FMem o' q w' b (m.afterHangup n) sv rv' ∧ Fr q o w o' w' := by
  have k1 : Hid (∀ w', FMem o q w' b m sv rv → Calls Try.prog 57 #[.pointer (some ⟨b, 0, none⟩), .int .i64 n] w' fun r w'' => r = .returned (.int .i64 (m.chk n)) ∧ w'' = w') := fun w' h' => checkOpen_any h' n
  unfold PM.afterHangup
  by_cases he : m.chk n = 0
  · have : ∃ k : Nat, k < 4 ∧ n = k := by
      rcases isC_cases n with h0 | ⟨h0, k, hk, e⟩
      · simp [PM.chk, h0] at he
      · exact ⟨k, hk, e⟩
    rw [he] at k1
    rw [he]
    simp only [beq_self_eq_true, cond_true]
    obtain ⟨k, hk, rfl⟩ := this
    simp only [Int.toNat_natCast]
    clear he
    go_enter Try.func50, Try.ntmps50
    go_wp2_with fail
    refine (k1.out _ h).mono ?_
    rintro e w1 ⟨rfl, rfl⟩
    go_wp2_with fail
    refine (close_any h hq k hk hmax).mono ?_
    rintro e w2 ⟨rfl, o', rv', hm, fr⟩
    go_wp2
    go_ret
    exact ⟨rfl, o', rv', hm, fr⟩
  · have he2 : (m.chk n == 0) = false := by simpa using he
    simp only [he2, cond_false]
    generalize m.chk n = E at *
    go_enter Try.func50, Try.ntmps50
    go_wp2_with fail
    refine (k1.out _ h).mono ?_
    rintro e w1 ⟨rfl, rfl⟩
    go_wp2
    go_ret
    exact ⟨rfl, o, rv, h, Fr.refl h.clean⟩
end
end Go.Proofs.Ytlafkpaljibonaa
