import Derived.Test.YtlafkpaljibonaaGreatR1
namespace Go.Proofs.YtlafkpaljibonaaGreat
open Go.RowKit

def noKey : RKey := ⟨0, 0, ⟨#[]⟩, 3⟩
def RM.key (m : RM) (i : Nat) : RKey := m.keys.getD i noKey
theorem RM.key_eq (m : RM) {i : Nat} (h : i < m.keys.length) : m.key i = m.keys[i] := by
  simp [RM.key, List.getD, List.getElem?_eq_getElem h]

def Cfg.fits (c : Cfg) : Prop := c.ch ≤ 6 ∧ (c.dyn = true → 0 ≤ c.mx)

structure RM.wf (m : RM) : Prop where
  q : ∀ i ∈ m.queue, i < m.keys.length
  s : ∀ k, k < 6 → (m.slot k).st = 3 → (m.slot k).key < m.keys.length
  ch : m.set.fits

def RM.back (m : RM) : List Nat := m.queue.filter fun i => (m.key i).is == 1
def RM.live (m : RM) (k : Nat) : Bool := (m.slot k).st == 3 && (m.key (m.slot k).key).is == 2

theorem numCells_append (a b : List Nat) : numCells (a ++ b) = numCells a ++ numCells b := by simp [numCells]
theorem numCells_one (l : List Nat) : ∀ u ∈ numCells l, u.oneCell' = true := by
  intro u hu
  simp only [numCells, List.mem_map] at hu
  obtain ⟨r, _, rfl⟩ := hu
  rfl
theorem news_num (W : World) (g : Nat) (hg : W.heap.size = g) (x : Nat) (T : TypeId) : ∀ j u, (numCells [x])[j]? = some u → (W.alloc (.cells #[.int .i64 x] T)).cell? ((⟨g, 0, none⟩ : Addr).add j) = some u := by
  subst hg
  exact World.news_of_block (heap_alloc_new W _)

theorem infoInt : (Tryz.prog.info? 3).map (fun i => (i.zero, i.size, i.bytes)) = some (some (.int .i64 0), 1, 8) := by kernel_rfl

section
variable {o : Nat → Tag} {q : Nat} {w : World} {b : Nat} {m : RM} {lv : Nat → Value} {kv qv : Value}

set_option maxRecDepth 100000 in
set_option maxHeartbeats 2000000 in
theorem rback_any (h : RMem o q w b m lv kv qv) (hwf : m.wf) (hmax : m.queue.length ≤ 1000000000000) :
    Calls Tryz.prog 69 #[.pointer (some ⟨b, 0, none⟩)] w fun r w' => ∃ v, r = .returned v ∧ w'.ownsRow w.heap.size 3 1 v m.back.length (numCells m.back) ∧ Below w.heap.size w w' := by
  obtain ⟨i0, hi, hz0, hz1, hz2⟩ := info_parts infoInt
  obtain ⟨ao, c, rfl, hn, hrow⟩ := h.qlist
  obtain ⟨ak, ck, rfl, hkn, hkrow⟩ := h.klist
  have h1 := h.queuev
  have h2 := h.keysv
  have hbl := h.blk.lt
  go_enter Tryz.func69, Tryz.ntmps69
  go_wp2
  go_loopw [3, 4] (fun v i w' => ∃ k : Nat, k ≤ m.queue.length ∧ i = .int .i64 k ∧ w'.ownsRow w.heap.size 3 1 v ((m.queue.take k).filter fun i => (m.key i).is == 1).length (numCells ((m.queue.take k).filter fun i => (m.key i).is == 1)) ∧ Below w.heap.size w w') (fun _ i _ => m.queue.length - (intOf i).toNat)
  case atStart => exact ⟨0, by omega, rfl, World.ownsRow_nil _ _ _ _, Below.refl _ _⟩
  case round =>
    obtain ⟨k, hk, rfl, hown, hb⟩ := hrel
    have hbase := hb.size
    rw [← hb.cell (by exact hbl)] at h1 h2
    by_cases hlt : k < m.queue.length
    · obtain ⟨g, rfl, hg, -, -, c0⟩ := hrow k hlt
      have hqi := hwf.q m.queue[k] (List.getElem_mem hlt)
      obtain ⟨gk, rfl, hgk, -, -, -, -, -, -, k3⟩ := hkrow _ hqi
      have hst := List.take_succ_eq_append_getElem hlt
      have HS : Hid _ := hst
      have hll : ((m.queue.take k).filter fun i => (m.key i).is == 1).length ≤ k := Nat.le_trans (List.length_filter_le _ _) (by rw [List.length_take]; omega)
      clear hst hrow hkrow
      rw [← m.key_eq hqi] at k3
      rw [← hb.cell (by exact hg)] at c0
      rw [← hb.cell (by exact hgk)] at k3
      generalize hacc : List.filter (fun i => (m.key i).is == 1) (List.take k m.queue) = acc at *
      have HA : Hid _ := hacc
      clear hacc
      generalize m.queue[k] = x at *
      by_cases h1 : (m.key x).is = 1
      · rw [h1] at k3
        go_wp2
        go_quiet (fail)
        have hbd : Below w.heap.size w (wr.drewN nq) := below_dN hb
        have hownd : (wr.drewN nq).ownsRow w.heap.size 3 1 u3 acc.length (numCells acc) := hown
        have c0d : (wr.drewN nq).cell? ⟨g, k, none⟩ = some (.int .i64 (x : Int)) := c0
        have q0d : (wr.drewN nq).cell? ⟨b, 55, none⟩ = some (.slice (some ⟨g, 0, none⟩) m.queue.length c) := by assumption
        have hbased : w.heap.size ≤ (wr.drewN nq).heap.size := hbase
        clear hown c0 k3 h2 hb hbase
        generalize wr.drewN nq = wd at *
        go_wp2_with (at_builtin; refine wpList_append_own _ rfl _ _ 74 rfl w.heap.size 3 i0 (.int .i64 0) 1 8 Tryz.underlying74 hi hz0 hz1 hz2 rfl (by omega) u3 acc.length (numCells acc) rfl ?hown ⟨wd.heap.size, 0, none⟩ 1 1 (numCells [x]) rfl rfl ?hnews ?h1 ?h63 ?hbytes ?hbase ?_)
        case hown => exact hownd.alloc _
        case hnews => exact news_num _ _ (by simp) _ _
        case h1 => exact numCells_one _
        case h63 => unfold maxLen; omega
        case hbytes => omega
        case hbase => simp; omega
        intro v' w2 hown2 hgrow _
        go_wp2
        refine ⟨⟨k + 1, by omega, by go_num, ?_, ?_⟩, by simp [intOf]; omega⟩
        · rw [HS.out, List.filter_append, show List.filter (fun i => (m.key i).is == 1) [x] = [x] from by simp [List.filter, h1], HA.out, numCells_append]
          simpa using hown2
        · refine (hbd.alloc hbased _).grown hgrow (by simp; omega) ?_
          intro y hy
          exact (hownd.lt y hy).1
      · have h2 : ((m.key x).is == 1) = false := by simpa using h1
        go_wp2
        go_quiet (fail)
        go_wp2
        refine ⟨⟨k + 1, by omega, by go_num, ?_, below_dN hb⟩, by simp [intOf]; omega⟩
        rw [HS.out, List.filter_append, show List.filter (fun i => (m.key i).is == 1) [x] = [] from by simp [List.filter, h2], HA.out, List.append_nil]
        exact hown
    · have : k = m.queue.length := by omega
      subst this
      go_wp2
      go_ret
      rw [List.take_length] at hown
      exact ⟨_, rfl, hown, hb⟩

set_option maxRecDepth 100000 in
set_option maxHeartbeats 1000000 in
theorem live_any (h : RMem o q w b m lv kv qv) (hwf : m.wf) (k : Nat) (hk : k < 6) :
    Calls Tryz.prog 59 #[.pointer (some ⟨b, 0, none⟩), .int .i64 k] w fun r w' => r = .returned (.bool (m.live k)) ∧ Below w.heap.size w w' := by
  obtain ⟨c0, -, -, -, c4⟩ := h.slotc hk
  obtain ⟨ak, ck, rfl, hkn, hkrow⟩ := h.klist
  have h2 := h.keysv
  unfold RM.live
  by_cases h3 : (m.slot k).st = 3
  · have hkey := hwf.s k hk h3
    obtain ⟨gk, rfl, hgk, -, -, -, -, -, -, k3⟩ := hkrow _ hkey
    rw [← m.key_eq hkey] at k3
    rw [h3] at c0
    simp only [h3, beq_self_eq_true, Bool.true_and]
    clear hkrow h3
    generalize (m.slot k).key = key at *
    generalize (m.key key).is = is at *
    have g1 : decide ((3 : Int) = 3) = true := by simp
    go_enter Tryz.func59, Tryz.ntmps59
    go_wp2
    go_quiet (fail)
    go_wp2
    go_ret
    exact ⟨by first | rfl | simp, below_dN (Below.refl _ _)⟩
  · have h3' : ((m.slot k).st == 3) = false := by simpa using h3
    simp only [h3', Bool.false_and]
    generalize (m.slot k).st = st at *
    have g1 : decide (st = 3) = false := by simpa using h3
    clear hkrow
    go_enter Tryz.func59, Tryz.ntmps59
    go_wp2
    go_quiet (fail)
    go_wp2
    go_ret
    exact ⟨by first | rfl | simp, below_dN (Below.refl _ _)⟩

end
end Go.Proofs.YtlafkpaljibonaaGreat
