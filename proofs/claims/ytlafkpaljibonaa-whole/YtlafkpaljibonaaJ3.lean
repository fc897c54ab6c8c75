import Derived.Test.YtlafkpaljibonaaJ2
import Derived.Deep.Upon
namespace Go.Proofs.Ytlafkpaljibonaa
open Go.RowKit

def PSlot.forget (s : PSlot) : PSlot := { s with conn := -1, id := 0 }

section
variable {o : Nat → Tag} {q : Nat} {w : World} {b : Nat} {m : PM} {sv : Nat → Value} {rv : Value}

theorem fcells_forget (m : PM) (sv : Nat → Value) (rv : Value) (k : Nat) (hk : k < 6) :
    ((fcells m sv rv).set (21 + k * 7 + 4) (.int .i64 (-1))).set (21 + k * 7 + 5) (.int .i64 0) = fcells { m with slot := upd m.slot k (m.slot k).forget } sv rv := by
  rcases k with _ | _ | _ | _ | _ | _ | k <;> first | rfl | omega

set_option maxRecDepth 100000 in
set_option maxHeartbeats 1000000 in
theorem forgetKey_any (h : FMem o q w b m sv rv) (k : Nat) (hk : k < 6) :
    Calls Try.prog 93 #[.pointer (some ⟨b, 21 + k * 7, none⟩)] w fun r w' => r = .returned (.tuple #[]) ∧ FMem o q w' b { m with slot := upd m.slot k (m.slot k).forget } sv rv ∧ Fr q o w o w' := by
  obtain ⟨-, -, -, -, c4, c5, -⟩ := h.slotc hk
  have fz := h.frozen
  go_enter Try.func93, Try.ntmps93
  go_wp2
  have hoth : ∀ x, x ≠ b → (((w.setCell ⟨b, 21 + k * 7 + 4, none⟩ (.int .i64 (-1))).setCell ⟨b, 21 + k * 7 + 5, none⟩ (.int .i64 0)).heap[x]?) = w.heap[x]? := by
    intro x hx
    repeat rw [Below.heap_setCell _ _ _ x (by simpa using hx)]
  have hbk := (h.blk.set (21 + k * 7 + 4) (.int .i64 (-1))).set (21 + k * 7 + 5) (.int .i64 0)
  rw [fcells_forget m sv rv k hk] at hbk
  have hm1 := h.put hbk (by simp [World.setCell]) hoth (fun _ _ => rfl) rfl
  exact bodyPost_end (v := .tuple #[]) (by simp [results, Try.results93, go_sem]) rfl ⟨rfl, hm1, h.fr_put hm1 (by simp [World.setCell]) (by simp [World.setCell]) (by simp [World.setCell]) (by simp [World.setCell]) hoth⟩

def PM.forgetAt (m : PM) : Option Nat → PM
  | some k => { m with slot := upd m.slot k (m.slot k).forget }
  | none => m
def PM.drop (m : PM) (c i : Int) : PM := { m with req := withoutL m.req c i }.forgetAt (m.slotOf c i)

set_option maxRecDepth 100000 in
set_option maxHeartbeats 2000000 in
theorem drop_any (h : FMem o q w b m sv rv) (c i : Int) (hmax : m.req.length ≤ 1000000000000) :
    Calls Try.prog 100 #[.pointer (some ⟨b, 0, none⟩), .agg #[.int .i64 c, .int .i64 i]] w fun r w' => r = .returned (.tuple #[]) ∧ ∃ o' rv', FMem o' q w' b (m.drop c i) sv rv' ∧ Fr q o w o' w' := by
  unfold PM.drop
  have hA := h.alloc (.cells #[.int .i64 c, .int .i64 i] 109)
  have fr0 := Fr.of_below (q := q) h.clean ((Below.refl w.heap.size w).alloc (Nat.le_refl _) (.cells #[.int .i64 c, .int .i64 i] 109))
  have x0 := Blk.made w 109 [.int .i64 c, .int .i64 i]
  go_enter Try.func100, Try.ntmps100
  go_wp2_with fail
  have x0 : Blk (w.alloc (.cells #[.int .i64 c, .int .i64 i] 109)) w.heap.size 109 [.int .i64 c, .int .i64 i] := x0
  have hlt : w.heap.size < (w.alloc (.cells #[.int .i64 c, .int .i64 i] 109)).heap.size := x0.lt
  generalize w.alloc (.cells #[.int .i64 c, .int .i64 i] 109) = w0 at *
  have y0 := x0.cell (k := 0) (u := .int .i64 c) rfl
  have y1 := x0.cell (k := 1) (u := .int .i64 i) rfl
  have y2 := hA.reqv
  have hAd := hA.below (Below.refl _ _).drew
  refine wp_region_noPanic ?_
  refine wp_region_held_drew (S := fun w' => w'.cell? ⟨w.heap.size, 0, none⟩ = some (.int .i64 c) ∧ w'.cell? ⟨w.heap.size, 1, none⟩ = some (.int .i64 i)) (by kernel_rfl) ⟨y0, y1⟩ (fun hHeld => ?_)
  refine take_at (i := 0) (v := ?_) rfl (by kernel_rfl) (by kernel_rfl) (by kernel_rfl) (fun _ _ _ h => h) (by rfl) ?_ (by assumption) ?_
  rotate_left
  · (intro wx hSw; obtain ⟨x0, x1⟩ := hSw; go_simp; with_reducible rfl)
  simp only [Act.put, List.setIfInBounds_toArray, List.set_cons_zero, List.set_cons_succ]
  refine take_at (i := 1) (v := ?_) rfl (by kernel_rfl) (by kernel_rfl) (by kernel_rfl) (fun _ _ _ h => h) (by rfl) ?_ (by assumption) ?_
  rotate_left
  · (intro wx hSw; obtain ⟨x0, x1⟩ := hSw; go_simp; with_reducible rfl)
  simp only [Act.put, List.setIfInBounds_toArray, List.set_cons_zero, List.set_cons_succ]
  refine take_at (i := 2) (v := ?_) rfl (by kernel_rfl) (by kernel_rfl) (by kernel_rfl) (fun _ _ _ h => h) (by rfl) ?_ (by assumption) ?_
  rotate_left
  · (intro wx hSw; obtain ⟨x0, x1⟩ := hSw; go_simp; with_reducible rfl)
  simp only [Act.put, List.setIfInBounds_toArray, List.set_cons_zero, List.set_cons_succ]
  refine take_at (i := 3) (v := ?_) rfl (by kernel_rfl) (by kernel_rfl) (by kernel_rfl) (fun _ _ _ h => h) (by rfl) ?_ (by assumption) ?_
  rotate_left
  · (intro wx hSw; obtain ⟨x0, x1⟩ := hSw; go_simp; with_reducible rfl)
  simp only [Act.put, List.setIfInBounds_toArray, List.set_cons_zero, List.set_cons_succ]
  refine take_at (i := 5) (v := ?_) rfl (by kernel_rfl) (by kernel_rfl) (by kernel_rfl) (fun _ _ _ h => h) (by rfl) ?_ (by assumption) ?_
  rotate_left
  · (intro wx hSw; obtain ⟨x0, x1⟩ := hSw; go_simp; with_reducible rfl)
  simp only [Act.put, List.setIfInBounds_toArray, List.set_cons_zero, List.set_cons_succ]
  refine only_at (i := 4) rfl (by kernel_rfl) (by rfl) (fun K hK => ?_)
  go_simp
  refine hK.out _ _ ⟨y0, y1⟩ ?_
  clear hK K hHeld
  refine only_at (i := 6) rfl (by kernel_rfl) (by rfl) (fun K hK => ?_)
  go_simp
  refine (without_any _ _ _ hAd.reqsAt c i hmax).mono ?_
  rintro e w1 ⟨v, rfl, own1, hb1⟩
  obtain ⟨av, cv, hv, -, -⟩ := own_slice own1
  subst hv
  have hm1 := hAd.below hb1
  have x1 := (x0.below (Below.refl _ _).drew).below hb1
  have y0' := x1.cell (k := 0) (u := .int .i64 c) rfl
  have y1' := x1.cell (k := 1) (u := .int .i64 i) rfl
  have z0 := hm1.reqv
  have fz := hm1.frozen
  have hne : w.heap.size ≠ b := by have := h.blk.lt; omega
  have hne' : b ≠ w.heap.size := fun e => hne e.symm
  have hS1 : w1.cell? ⟨w.heap.size, 0, none⟩ = some (.int .i64 c) ∧ w1.cell? ⟨w.heap.size, 1, none⟩ = some (.int .i64 i) := ⟨y0', y1'⟩
  refine hK.out _ _ hS1 ?_
  clear hK K y0 y1 y2
  refine take_at (i := 7) (v := ?_) rfl (by kernel_rfl) (by kernel_rfl) (by kernel_rfl) (fun _ _ _ h => h) (by rfl) ?_ (by assumption) ?_
  rotate_left
  · (intro wx hSw; obtain ⟨x0, x1⟩ := hSw; go_simp; with_reducible rfl)
  simp only [Act.put, List.setIfInBounds_toArray, List.set_cons_zero, List.set_cons_succ]
  refine take_at (i := 8) (v := ?_) rfl (by kernel_rfl) (by kernel_rfl) (by kernel_rfl) (fun _ _ _ h => h) (by rfl) ?_ (by assumption) ?_
  rotate_left
  · (intro wx hSw; obtain ⟨x0, x1⟩ := hSw; go_simp; with_reducible rfl)
  simp only [Act.put, List.setIfInBounds_toArray, List.set_cons_zero, List.set_cons_succ]
  refine only_at (i := 9) rfl (by kernel_rfl) (by rfl) (fun K hK => ?_)
  go_simp
  have x2 := x1.keep (w' := w1.setCell ⟨b, 20, none⟩ (.slice av (withoutL m.req c i).length cv)) (Below.heap_setCell _ _ _ _ (by simpa using hne))
  refine hK.out _ _ ⟨x2.cell rfl, x2.cell rfl⟩ ?_
  clear hK K
  refine wpAnyH_done (by kernel_rfl) ?_ _
  refine NoPanic.normal ?_
  obtain ⟨o', hm2, fr2⟩ := hAd.newReq hb1 _ (withoutL m.req c i) own1
  have frA : Fr q o w o' (w1.setCell ⟨b, 20, none⟩ (.slice av (withoutL m.req c i).length cv)) := (fr0.below (Below.refl _ _).drew).trans fr2
  have hslot : Hid ({ m with req := withoutL m.req c i }.slotOf c i = m.slotOf c i) := rfl
  clear z0 fz hS1 y0' y1' own1 hb1 hm1 hAd hA fr0 fr2 x0 x1
  generalize w1.setCell ⟨b, 20, none⟩ (.slice av (withoutL m.req c i).length cv) = w2 at *
  have y0 := x2.cell (k := 0) (u := .int .i64 c) rfl
  have y1 := x2.cell (k := 1) (u := .int .i64 i) rfl
  have hc : Hid (∀ w', FMem o' q w' b { m with req := withoutL m.req c i } sv (.slice av (withoutL m.req c i).length cv) → Calls Try.prog 111 #[.pointer (some ⟨b, 0, none⟩), .agg #[.int .i64 c, .int .i64 i]] w' fun r w'' => r = .returned (fwV (m.slotOf c i)) ∧ Below w'.heap.size w' w'') := fun w' h' => slotOf_any h' c i
  have hk0 := m.slotFrom_lt c i 0 6
  change ∀ a, m.slotOf c i = some a → a < 0 + 6 at hk0
  go_wp2_with fail
  refine (hc.out _ hm2).mono ?_
  rintro e w3 ⟨rfl, hb3⟩
  have hm3 := hm2.below hb3
  clear y0 y1 hc
  cases hs : m.slotOf c i with
  | none =>
    unfold fwV
    go_wp2
    exact bodyPost_end (v := .tuple #[]) (by simp [results, Try.results100, go_sem]) rfl ⟨rfl, o', _, by rw [hs]; exact hm3, frA.below hb3⟩
  | some k =>
    have hk : k < 6 := by have := hk0 k hs; omega
    unfold fwV
    go_wp2_with fail
    refine (forgetKey_any hm3 k hk).mono ?_
    rintro e w4 ⟨rfl, hm4, fr4⟩
    go_wp2
    exact bodyPost_end (v := .tuple #[]) (by simp [results, Try.results100, go_sem]) rfl ⟨rfl, o', _, by rw [hs]; exact hm4, (frA.below hb3).trans fr4⟩
end
end Go.Proofs.Ytlafkpaljibonaa

namespace Go.Proofs.Ytlafkpaljibonaa
open Go.RowKit

def PM.keysOf (m : PM) (c : Int) : List (Int × Int) := (m.req.filter fun r => r.conn == c).map fun r => (r.conn, r.id)

section
variable {o : Nat → Tag} {q : Nat} {w : World} {b : Nat} {m : PM} {sv : Nat → Value} {rv : Value}

set_option maxRecDepth 100000 in
set_option maxHeartbeats 2000000 in
theorem keysOf_any (h : FMem o q w b m sv rv) (cn : Int) (hmax : m.req.length ≤ 1000000000000) :
    Calls Try.prog 99 #[.pointer (some ⟨b, 0, none⟩), .int .i64 cn] w fun r w' => ∃ v, r = .returned v ∧ w'.ownsRow w.heap.size 109 2 v (m.keysOf cn).length (keyCells (m.keysOf cn)) ∧ Below w.heap.size w w' := by
  obtain ⟨i0, hi, hz0, hz1, hz2⟩ := info_parts infoKey
  obtain ⟨ao, c, rfl, hn, hrow⟩ := h.list
  have h1 := h.reqv
  go_enter Try.func99, Try.ntmps99
  go_wp2
  go_loopw [5, 13] (fun v i w' => ∃ k : Nat, k ≤ m.req.length ∧ i = .int .i64 k ∧ w'.ownsRow w.heap.size 109 2 v (((m.req.take k).filter fun r => r.conn == cn).map fun r => (r.conn, r.id)).length (keyCells (((m.req.take k).filter fun r => r.conn == cn).map fun r => (r.conn, r.id))) ∧ Below w.heap.size w w') (fun _ i _ => m.req.length - (intOf i).toNat)
  case atStart => exact ⟨0, by omega, rfl, World.ownsRow_nil _ _ _ _, Below.refl _ _⟩
  case round =>
    obtain ⟨k, hk, rfl, hown, hb⟩ := hrel
    have hbase := hb.size
    by_cases hlt : k < m.req.length
    · obtain ⟨g, rfl, hg, -, -, c0, c1, c2, c3⟩ := hrow k hlt
      have hst := List.take_succ_eq_append_getElem hlt
      have HS : Hid _ := hst
      have hll : ((m.req.take k).filter fun r => r.conn == cn).length ≤ k := Nat.le_trans (List.length_filter_le _ _) (by rw [List.length_take]; omega)
      clear hst hrow
      rw [← hb.cell (by exact hg)] at c0 c1 c2 c3
      generalize hacc : (List.map (fun (r : Req) => (r.conn, r.id)) (List.filter (fun r => r.conn == cn) (List.take k m.req))) = acc at *
      have HA : Hid _ := hacc
      have hal : acc.length ≤ k := by rw [← hacc]; simpa using hll
      clear hacc hll
      generalize m.req[k] = r at *
      by_cases h1 : r.conn = cn
      · subst h1
        go_wp2_with (at_builtin; refine wpList_append_own _ rfl _ _ 61 rfl w.heap.size 109 i0 (.agg #[.int .i64 0, .int .i64 0]) 2 16 Try.underlying61 hi hz0 hz1 hz2 rfl (by omega) u5 acc.length (keyCells acc) rfl ?hown ⟨wr.heap.size + 1, 0, none⟩ 1 1 (keyCells [(r.conn, r.id)]) rfl rfl ?hnews ?h1 ?h63 ?hbytes ?hbase ?_)
        case hown => exact (hown.alloc _).alloc _
        case hnews => exact news_key _ _ (by simp) _ _ _
        case h1 => exact keyCells_one _
        case h63 => unfold maxLen; omega
        case hbytes => omega
        case hbase => simp; omega
        intro v' w2 hown2 hgrow _
        go_wp2
        refine ⟨⟨k + 1, by omega, by go_num, ?_, ?_⟩, by simp [intOf]; omega⟩
        · rw [HS.out, List.filter_append, List.map_append, show List.filter (fun x => x.conn == r.conn) [r] = [r] from by simp [List.filter], HA.out, keyCells_append]
          simpa using hown2
        · refine ((hb.alloc hbase _).alloc (by simp; omega) _).grown hgrow (by simp; omega) ?_
          intro x hx
          exact (hown.lt x hx).1
      · have h2 : (r.conn == cn) = false := by simpa using h1
        go_wp2
        refine ⟨⟨k + 1, by omega, by go_num, ?_, hb.alloc hbase _⟩, by simp [intOf]; omega⟩
        rw [HS.out, List.filter_append, List.map_append, show List.filter (fun r => r.conn == cn) [r] = [] from by simp [List.filter, h2], HA.out]
        simpa using hown.alloc _
    · have : k = m.req.length := by omega
      subst this
      go_wp2
      go_ret
      rw [List.take_length] at hown
      exact ⟨_, rfl, hown, hb⟩

def PM.chk (m : PM) (n : Int) : Int := cond (isC n) (cond (m.con n.toNat).op 0 4) 2

set_option maxRecDepth 100000 in
set_option maxHeartbeats 400000 in
theorem checkOpen_any (h : FMem o q w b m sv rv) (n : Int) :
    Calls Try.prog 57 #[.pointer (some ⟨b, 0, none⟩), .int .i64 n] w fun r w' => r = .returned (.int .i64 (m.chk n)) ∧ w' = w := by
  unfold PM.chk
  rcases isC_cases n with h0 | ⟨h0, k, hk, rfl⟩
  · simp only [h0, cond_false]
    go_enter Try.func57, Try.ntmps57
    go_wp2_with fail
    refine (isConnection_any _ _).mono ?_
    rintro e w1 ⟨rfl, rfl⟩
    rw [h0]
    go_wp2
    go_ret
    exact ⟨rfl, rfl⟩
  · simp only [h0, cond_true, Int.toNat_natCast]
    have h1 := h.op hk
    cases hop : (m.con k).op
    all_goals
      rw [hop] at h1
      simp only [cond_true, cond_false]
      clear hop
      go_enter Try.func57, Try.ntmps57
      go_wp2_with fail
      refine (isConnection_any _ _).mono ?_
      rintro e w1 ⟨rfl, rfl⟩
      rw [h0]
      go_wp2
      go_ret
      exact ⟨rfl, rfl⟩

def PM.shut (m : PM) (k : Nat) : PM := { m with con := upd m.con k { m.con k with op := false, rest := ⟨#[]⟩ } }
def PM.dropAll (m : PM) (l : List (Int × Int)) : PM := l.foldl (fun m k => m.drop k.1 k.2) m
def PM.close (m : PM) (k : Nat) : PM := (m.shut k).dropAll (m.keysOf k)

theorem fcells_shut (m : PM) (sv : Nat → Value) (rv : Value) (k : Nat) (hk : k < 4) :
    ((fcells m sv rv).set (8 + k * 3) (.bool false)).set (8 + k * 3 + 1) (.string ⟨#[]⟩) = fcells (m.shut k) sv rv := by
  rcases k with _ | _ | _ | _ | k <;> first | rfl | omega

theorem drop_req (m : PM) (c i : Int) : (m.drop c i).req = withoutL m.req c i := by
  unfold PM.drop
  cases m.slotOf c i <;> rfl

theorem withoutL_len (l : List Req) (c i : Int) : (withoutL l c i).length ≤ l.length := List.length_filter_le _ _

theorem dropAll_len (l : List (Int × Int)) (m : PM) : (m.dropAll l).req.length ≤ m.req.length := by
  induction l generalizing m with
  | nil => exact Nat.le_refl _
  | cons k l ih =>
    have := ih (m.drop k.1 k.2)
    have h2 := withoutL_len m.req k.1 k.2
    rw [drop_req] at this
    simp only [PM.dropAll, List.foldl_cons] at *
    omega

theorem dropAll_take (m : PM) (l : List (Int × Int)) (j : Nat) (h : j < l.length) : m.dropAll (l.take (j + 1)) = (m.dropAll (l.take j)).drop l[j].1 l[j].2 := by
  unfold PM.dropAll
  rw [List.take_succ_eq_append_getElem h, List.foldl_append]
  rfl

set_option maxRecDepth 100000 in
set_option maxHeartbeats 2000000 in
theorem close_any (h : FMem o q w b m sv rv) (hq : q ≠ 0) (k : Nat) (hk : k < 4) (hmax : m.req.length ≤ 1000000000000) :
    Calls Try.prog 75 #[.pointer (some ⟨b, 0, none⟩), .int .i64 k] w fun r w' => r = .returned (.tuple #[]) ∧ ∃ o' rv', FMem o' q w' b (m.close k) sv rv' ∧ Fr q o w o' w' := by
  have c0 := h.op hk
  have c1 := h.rest hk
  have fz := h.frozen
  have hoth : ∀ x, x ≠ b → (((w.setCell ⟨b, 8 + k * 3, none⟩ (.bool false)).setCell ⟨b, 8 + k * 3 + 1, none⟩ (.string ⟨#[]⟩)).heap[x]?) = w.heap[x]? := by
    intro x hx
    repeat rw [Below.heap_setCell _ _ _ x (by simpa using hx)]
  have hbk := (h.blk.set (8 + k * 3) (.bool false)).set (8 + k * 3 + 1) (.string ⟨#[]⟩)
  rw [fcells_shut m sv rv k hk] at hbk
  have hsent : ∀ j, j < 4 → ((m.shut k).con j).sent = (m.con j).sent := by
    intro j _
    simp only [PM.shut, upd]
    split
    · rename_i e; rw [e]
    · rfl
  have hm1 := h.put hbk (by simp [World.setCell]) hoth hsent rfl
  have fr1 := h.fr_put hm1 (by simp [World.setCell]) (by simp [World.setCell]) (by simp [World.setCell]) (by simp [World.setCell]) hoth
  unfold PM.close
  have hkeys : Hid (m.keysOf k = (m.shut k).keysOf k) := rfl
  rw [hkeys.out]
  have hmax1 : (m.shut k).req.length ≤ 1000000000000 := hmax
  have hkl : ((m.shut k).keysOf k).length ≤ 1000000000000 := by
    have : ((m.shut k).keysOf k).length ≤ (m.shut k).req.length := by simp only [PM.keysOf, List.length_map]; exact List.length_filter_le _ _
    omega
  generalize (m.shut k) = m1 at *
  have hcall : Hid (∀ w', FMem o q w' b m1 sv rv → Calls Try.prog 99 #[.pointer (some ⟨b, 0, none⟩), .int .i64 k] w' fun r w'' => ∃ v, r = .returned v ∧ w''.ownsRow w'.heap.size 109 2 v (m1.keysOf k).length (keyCells (m1.keysOf k)) ∧ Below w'.heap.size w' w'') := fun w' h' => keysOf_any h' k hmax1
  generalize m1.keysOf k = L at *
  clear hbk hsent hkeys
  go_enter Try.func75, Try.ntmps75
  go_wp2_with fail
  refine (hcall.out _ hm1).mono ?_
  rintro e w1 ⟨v, rfl, own, hb1⟩
  have hm2 := hm1.below hb1
  have fr2 := fr1.below hb1
  have hvlt := own.lt
  have hcl := hm1.clean
  obtain ⟨av, cv, hv, hln, hl0⟩ := own_slice own
  subst hv
  clear c0 c1 fz hm1 fr1 hoth hcall
  go_wp2
  go_loopw [24] (fun j w' => ∃ (n : Nat) (o' : Nat → Tag) (rv' : Value), n ≤ L.length ∧ j = .int .i64 n ∧ FMem o' q w' b (m1.dropAll (L.take n)) sv rv' ∧ Fr q o w1 o' w' ∧ w'.ownsRow 0 109 2 (.slice av L.length cv) L.length (keyCells L)) (fun j _ => L.length - (intOf j).toNat)
  case atStart => exact ⟨0, o, rv, by omega, rfl, hm2, Fr.refl hm2.clean, own_mono own (Nat.zero_le _)⟩
  case round =>
    obtain ⟨n, o1, rv1, hn, rfl, hm, hfr, how⟩ := hrel
    by_cases hlt : n < L.length
    · obtain ⟨g, rfl, hg0, hg⟩ := hl0 (by omega)
      have d0 := how.cellAt (n * 2) (by omega)
      have d1 := how.cellAt (n * 2 + 1) (by omega)
      have hget := keyCells_get L n hlt
      rw [hget.1] at d0
      rw [hget.2] at d1
      have HD : Hid _ := dropAll_take m1 L n hlt
      have hlen := dropAll_len (L.take n) m1
      clear hget
      generalize L[n] = K at *
      have hmA := fun ob => hm.alloc ob
      go_wp2_with fail
      refine (drop_any (hm.alloc _) K.1 K.2 (by omega)).mono ?_
      rintro e w2 ⟨rfl, o2, rv2, hm3, fr3⟩
      have frA : Fr q o1 wr o1 _ := Fr.of_below hm.clean ((Below.refl wr.heap.size wr).alloc (Nat.le_refl _) (.cells #[.int .i64 K.1, .int .i64 K.2] 109))
      have fr4 := hfr.trans (frA.trans fr3)
      go_wp2
      refine ⟨⟨n + 1, o2, rv2, by omega, by go_num, by rw [HD.out]; exact hm3, fr4, ?_⟩, by simp [intOf]; omega⟩
      refine own_keepAt own (fun y hy => ?_) (Nat.zero_le _)
      obtain ⟨h1, h2⟩ := hvlt y hy
      refine fr4.block y h2 ?_
      rw [hcl y h1]
      exact fun e => hq e.symm
    · have : n = L.length := by omega
      subst this
      go_wp2
      rw [List.take_length] at hm
      exact bodyPost_end (v := .tuple #[]) (by simp [results, Try.results75, go_sem]) rfl ⟨rfl, o1, rv1, hm, fr2.trans hfr⟩

def PM.connect (m : PM) (k : Nat) : PM := { m with con := upd m.con k ⟨true, ⟨#[]⟩, []⟩ }
def PM.connectE (m : PM) (n : Int) : Int := cond (isC n) (cond (m.con n.toNat).op 3 0) 2
def PM.afterConnect (m : PM) (n : Int) : PM := cond (isC n && !(m.con n.toNat).op) (m.connect n.toNat) m

theorem fcells_connect (m : PM) (sv : Nat → Value) (rv : Value) (k : Nat) (hk : k < 4) :
    (((fcells m sv rv).set (8 + k * 3) (.bool true)).set (8 + k * 3 + 1) (.string ⟨#[]⟩)).set (8 + k * 3 + 2) (.slice none 0 0) = fcells (m.connect k) (upd sv k (.slice none 0 0)) rv := by
  rcases k with _ | _ | _ | _ | k <;> first | rfl | omega

/-- A connection's three cells are written: nothing was sent over it. -/
theorem FMem.putConn (h : FMem o q w b m sv rv) {k : Nat} (hk : k < 4) :
    let w' := ((w.setCell ⟨b, 8 + k * 3, none⟩ (.bool true)).setCell ⟨b, 8 + k * 3 + 1, none⟩ (.string ⟨#[]⟩)).setCell ⟨b, 8 + k * 3 + 2, none⟩ (.slice none 0 0)
    FMem o q w' b (m.connect k) (upd sv k (.slice none 0 0)) rv ∧ Fr q o w o w' := by
  intro w'
  have hoth : ∀ g, g ≠ b → w'.heap[g]? = w.heap[g]? := by
    intro g hg
    simp only [w']
    repeat rw [Below.heap_setCell _ _ _ g (by simpa using hg)]
  have hs : w'.heap.size = w.heap.size := by simp [w', World.setCell]
  have hcl : Clean o w' := h.clean.le (Nat.le_of_eq hs.symm)
  have hm : FMem o q w' b (m.connect k) (upd sv k (.slice none 0 0)) rv := by
    refine ⟨hcl, h.tag, ?_, fun j hj => ?_, ?_, h.few⟩
    · rw [← fcells_connect m sv rv k hk]
      exact ((h.blk.set _ _).set _ _).set _ _
    · by_cases e : j = k
      · subst e
        simp only [PM.connect, upd_same]
        exact Row.nil _ _ _ _ _
      · simp only [PM.connect, upd_other _ _ e]
        exact (h.sent j hj).keep (fun _ _ => rfl) fun g _ hg => hoth g fun e => by rw [e, h.tag] at hg; simp at hg; omega
    · exact h.reqs.keep (fun _ _ => rfl) fun g _ hg => hoth g fun e => by rw [e, h.tag] at hg; simp at hg
  refine ⟨hm, ⟨by simp [w', World.setCell], by simp [w', World.setCell], by simp [w', World.setCell], Nat.le_of_eq hs.symm, hcl, fun _ _ => rfl, fun g _ hg => hoth g (by rintro rfl; rw [h.tag] at hg; exact hg rfl)⟩⟩

set_option maxRecDepth 100000 in
set_option maxHeartbeats 1000000 in
theorem connect_any (h : FMem o q w b m sv rv) (n : Int) :
    Calls Try.prog 24 #[.pointer (some ⟨b, 0, none⟩), .int .i64 n] w fun r w' => r = .returned (.int .i64 (m.connectE n)) ∧ ∃ sv', FMem o q w' b (m.afterConnect n) sv' rv ∧ Fr q o w o w' := by
  unfold PM.connectE PM.afterConnect
  rcases isC_cases n with h0 | ⟨h0, k, hk, rfl⟩
  · simp only [h0, cond_false, Bool.false_and]
    go_enter Try.func24, Try.ntmps24
    go_wp2_with fail
    refine (isConnection_any _ _).mono ?_
    rintro e w1 ⟨rfl, rfl⟩
    rw [h0]
    go_wp2
    go_ret
    exact ⟨rfl, sv, h, Fr.refl h.clean⟩
  · simp only [h0, cond_true, Int.toNat_natCast, Bool.true_and]
    have h1 := h.op hk
    have h2 := h.rest hk
    have h3 := h.sentv hk
    have fz := h.frozen
    have hform := (h.sent k hk).form
    obtain ⟨asv, csv, hsv, -, -⟩ := hform
    rw [hsv] at h3
    cases hop : (m.con k).op
    · rw [hop] at h1
      simp only [cond_true, cond_false, Bool.not_false]
      clear hop
      go_enter Try.func24, Try.ntmps24
      go_wp2_with fail
      refine (isConnection_any _ _).mono ?_
      rintro e w1 ⟨rfl, rfl⟩
      rw [h0]
      go_wp2
      go_ret
      have := h.putConn hk
      exact ⟨rfl, _, this.1, this.2⟩
    · rw [hop] at h1
      simp only [cond_true, cond_false, Bool.not_true]
      clear hop
      go_enter Try.func24, Try.ntmps24
      go_wp2_with fail
      refine (isConnection_any _ _).mono ?_
      rintro e w1 ⟨rfl, rfl⟩
      rw [h0]
      go_wp2
      go_ret
      exact ⟨rfl, sv, h, Fr.refl h.clean⟩

def PM.afterHangup (m : PM) (n : Int) : PM := cond (m.chk n == 0) (m.close n.toNat) m

set_option maxRecDepth 100000 in
set_option maxHeartbeats 1000000 in
theorem hangup_any (h : FMem o q w b m sv rv) (hq : q ≠ 0) (n : Int) (hmax : m.req.length ≤ 1000000000000) :
    Calls Try.prog 50 #[.pointer (some ⟨b, 0, none⟩), .int .i64 n] w fun r w' => r = .returned (.int .i64 (m.chk n)) ∧ ∃ o' rv', FMem o' q w' b (m.afterHangup n) sv rv' ∧ Fr q o w o' w' := by
  have k1 : Hid (∀ w', FMem o q w' b m sv rv → Calls Try.prog 57 #[.pointer (some ⟨b, 0, none⟩), .int .i64 n] w' fun r w'' => r = .returned (.int .i64 (m.chk n)) ∧ w'' = w') := fun w' h' => checkOpen_any h' n
  unfold PM.afterHangup
  by_cases he : m.chk n = 0
  · have : ∃ k : Nat, k < 4 ∧ n = k := by
      rcases isC_cases n with h0 | ⟨h0, k, hk, e⟩
      · simp [PM.chk, h0] at he
      · exact ⟨k, hk, e⟩
    rw [he] at k1
    rw [he]
    simp only [beq_self_eq_true, cond_true]
    obtain ⟨k, hk, rfl⟩ := this
    simp only [Int.toNat_natCast]
    clear he
    go_enter Try.func50, Try.ntmps50
    go_wp2_with fail
    refine (k1.out _ h).mono ?_
    rintro e w1 ⟨rfl, rfl⟩
    go_wp2_with fail
    refine (close_any h hq k hk hmax).mono ?_
    rintro e w2 ⟨rfl, o', rv', hm, fr⟩
    go_wp2
    go_ret
    exact ⟨rfl, o', rv', hm, fr⟩
  · have he2 : (m.chk n == 0) = false := by simpa using he
    simp only [he2, cond_false]
    generalize m.chk n = E at *
    go_enter Try.func50, Try.ntmps50
    go_wp2_with fail
    refine (k1.out _ h).mono ?_
    rintro e w1 ⟨rfl, rfl⟩
    go_wp2
    go_ret
    exact ⟨rfl, o, rv, h, Fr.refl h.clean⟩
end
end Go.Proofs.Ytlafkpaljibonaa

namespace Go.Proofs.Ytlafkpaljibonaa
open Go.RowKit

def findFrom (c i : Int) : List Req → Nat → Option Nat
  | [], _ => none
  | r :: l, k => cond (isKey c i r) (some k) (findFrom c i l (k + 1))
def PM.find (m : PM) (c i : Int) : Option Nat := findFrom c i m.req 0

theorem findFrom_drop (c i : Int) (l : List Req) (k : Nat) (hk : k < l.length) : findFrom c i (l.drop k) k = cond (isKey c i l[k]) (some k) (findFrom c i (l.drop (k + 1)) (k + 1)) := by
  rw [List.drop_eq_getElem_cons hk]; rfl

theorem findFrom_some (c i : Int) (l : List Req) (k a : Nat) (h : findFrom c i l k = some a) : ∃ (_ : k ≤ a) (hl : a - k < l.length), isKey c i l[a - k] = true := by
  induction l generalizing k with
  | nil => simp [findFrom] at h
  | cons r l ih =>
    simp only [findFrom] at h
    cases hr : isKey c i r
    · rw [hr] at h
      obtain ⟨h1, h2, h3⟩ := ih (k + 1) h
      have e : a - k = (a - (k + 1)) + 1 := by omega
      refine ⟨by omega, by simp only [List.length_cons]; omega, ?_⟩
      simp only [e, List.getElem_cons_succ]; exact h3
    · rw [hr] at h
      simp only [cond_true, Option.some.injEq] at h
      subst h
      refine ⟨Nat.le_refl _, by simp, ?_⟩
      simp only [Nat.sub_self, List.getElem_cons_zero]; exact hr

theorem PM.find_some (m : PM) (c i : Int) (a : Nat) (h : m.find c i = some a) : ∃ (hl : a < m.req.length), m.req[a].conn = c ∧ m.req[a].id = i := by
  obtain ⟨_, h2, h3⟩ := findFrom_some c i m.req 0 a h
  simp only [Nat.sub_zero] at h2 h3
  simp only [isKey, Bool.and_eq_true, beq_iff_eq] at h3
  exact ⟨h2, h3⟩

section
variable {o : Nat → Tag} {q : Nat} {w : World} {b : Nat} {m : PM} {sv : Nat → Value} {rv : Value}

set_option maxRecDepth 100000 in
set_option maxHeartbeats 2000000 in
theorem find_any (h : FMem o q w b m sv rv) (c i : Int) :
    Calls Try.prog 104 #[.pointer (some ⟨b, 0, none⟩), .agg #[.int .i64 c, .int .i64 i]] w fun r w' => r = .returned (fwV (m.find c i)) ∧ Below w.heap.size w w' := by
  obtain ⟨ao, cp, rfl, hn, hrow⟩ := h.list
  have h1 := fun ob => (h.alloc ob).reqv
  have x0 := Blk.made w 109 [.int .i64 c, .int .i64 i]
  go_enter Try.func104, Try.ntmps104
  go_wp2
  go_loopw [13] (fun j w' => ∃ k : Nat, k ≤ m.req.length ∧ j = .int .i64 k ∧ m.find c i = findFrom c i (m.req.drop k) k ∧ Blk w' w.heap.size 109 [.int .i64 c, .int .i64 i] ∧ Below w.heap.size w w') (fun j _ => m.req.length - (intOf j).toNat)
  case atStart => exact ⟨0, by omega, rfl, rfl, x0, (Below.refl _ _).alloc (Nat.le_refl _) _⟩
  case round =>
    clear x0 h1
    obtain ⟨k, hk, rfl, hfw, hx, hb⟩ := hrel
    have HF : Hid _ := hfw
    clear hfw
    by_cases hlt : k < m.req.length
    · obtain ⟨g, rfl, hg, -, -, c0, c1, c2, c3⟩ := hrow k hlt
      have HS : Hid _ := findFrom_drop c i m.req k hlt
      clear hrow
      rw [← hb.cell (by exact hg)] at c0 c1 c2 c3
      generalize m.req[k] = r at *
      have y0 := fun ob => (hx.below ((Below.refl _ _).alloc (Nat.le_refl _) ob)).cell (k := 0) (u := .int .i64 c) rfl
      have y1 := fun ob => (hx.below ((Below.refl _ _).alloc (Nat.le_refl _) ob)).cell (k := 1) (u := .int .i64 i) rfl
      have hxl := hx.lt
      by_cases h1 : r.conn = c
      · by_cases h2 : r.id = i
        · have HT : Hid (isKey c i r = true) := by show _ = _; simp [isKey, h1, h2]
          subst h1 h2
          go_wp2
          go_ret2
          refine ⟨?_, hb.alloc (Nat.le_of_lt hxl) _⟩
          rw [HF.out, HS.out, HT.out]; rfl
        · have HT : Hid (isKey c i r = false) := by show _ = _; simp [isKey, h2]
          subst h1
          go_wp2
          refine ⟨⟨k + 1, by omega, by go_num, ?_, hx.below ((Below.refl _ _).alloc (Nat.le_refl _) _), hb.alloc (Nat.le_of_lt hxl) _⟩, by simp [intOf]; omega⟩
          rw [HF.out, HS.out, HT.out]; rfl
      · have HT : Hid (isKey c i r = false) := by show _ = _; simp [isKey, h1]
        go_wp2
        refine ⟨⟨k + 1, by omega, by go_num, ?_, hx.below ((Below.refl _ _).alloc (Nat.le_refl _) _), hb.alloc (Nat.le_of_lt hxl) _⟩, by simp [intOf]; omega⟩
        rw [HF.out, HS.out, HT.out]; rfl
    · have : k = m.req.length := by omega
      go_wp2
      go_ret2
      refine ⟨?_, hb⟩
      rw [HF.out, this]
      simp [findFrom, fwV]

def PM.again (m : PM) (c i k : Int) : Bool := (m.find c i).isSome && k == 1

set_option maxRecDepth 100000 in
set_option maxHeartbeats 1000000 in
theorem beginsAgain_any (h : FMem o q w b m sv rv) (c i k : Int) :
    Calls Try.prog 83 #[.pointer (some ⟨b, 0, none⟩), .agg #[.int .i64 c, .int .i64 i], .int .i64 k] w fun r w' => r = .returned (.bool (m.again c i k)) ∧ Below w.heap.size w w' := by
  have kf : Hid (∀ w', FMem o q w' b m sv rv → Calls Try.prog 104 #[.pointer (some ⟨b, 0, none⟩), .agg #[.int .i64 c, .int .i64 i]] w' fun r w'' => r = .returned (fwV (m.find c i)) ∧ Below w'.heap.size w' w'') := fun w' h' => find_any h' c i
  unfold PM.again
  cases hf : m.find c i with
  | none =>
    rw [hf] at kf
    unfold fwV at kf
    go_enter Try.func83, Try.ntmps83
    go_wp2_with fail
    refine (kf.out _ (h.alloc _)).mono ?_
    rintro e w1 ⟨rfl, hb⟩
    go_wp2
    go_ret
    exact ⟨by simp, ((Below.refl _ _).alloc (Nat.le_refl _) _).trans (hb.mono (by simp))⟩
  | some a =>
    rw [hf] at kf
    unfold fwV at kf
    go_enter Try.func83, Try.ntmps83
    go_wp2_with fail
    refine (kf.out _ (h.alloc _)).mono ?_
    rintro e w1 ⟨rfl, hb⟩
    go_wp2
    go_ret
    exact ⟨by simp, ((Below.refl _ _).alloc (Nat.le_refl _) _).trans (hb.mono (by simp))⟩

end
end Go.Proofs.Ytlafkpaljibonaa

namespace Go.Proofs.Ytlafkpaljibonaa
open Go.RowKit

theorem append_str_at {P : Program} (w : World) (t u ty e : TypeId) (i : TypeInfo) (ht : P.underlying t = some (.slice e)) (hu : P.underlying u = some .string) (hi : P.info? e = some i) (hz : i.zero = some (.int .u8 0))
    (hsize : i.size = 1) (hby : i.bytes = 1) (v : Value) (n : Nat) (xs : List Value) (hown : w.ownsRow 0 e 1 v n xs) (s : ByteArray) (hn : n + s.size ≤ 100000000000000) :
    ∃ v' w', (Builtin.append_ #[t, u] ty #[v, .string s]).run P w = .ok v' w' ∧ w'.ownsRow 0 e 1 v' (n + s.size) (xs ++ Lib.strCells s) ∧ w.grownBy w' v.ownBlock ∧ (v'.ownBlock = v.ownBlock ∨ v'.ownBlock = some w.heap.size) := by
  obtain ⟨v', w', hr, h2, h3, h4⟩ := Lib.run_append_own_string (P := P) w 0 t u ty e i ht hu hi hz hsize hby v n xs hown s (by unfold maxLen; omega) (by omega) (Nat.zero_le _)
  refine ⟨v', w', hr, h2, h3, ?_⟩
  rcases hown.2 with ⟨rfl, rfl⟩ | ⟨g, cap, cur, rfl, hbg, hg, hnc, hcm, hcs, htake⟩
  · by_cases hs : s.size = 0
    · left; rw [h4.2 ⟨rfl, hs⟩]
    · have hr' := run_append_nil_string (P := P) w t u ty e i (.int .u8 0) ht hu hi hz s (by omega) (by omega) (by rw [hby]; omega)
      rw [hr] at hr'
      simp only [Result.ok.injEq] at hr'
      right; rw [hr'.1]; rfl
  · by_cases hroom : n + s.size ≤ cap
    · have hcs' : cur.size = cap := by simpa using hcs
      have hr' := Lib.run_append_room_string (P := P) w t u ty e i ht hu hi hsize g n cap cur hg s hroom (by omega)
      rw [hr] at hr'
      simp only [Result.ok.injEq] at hr'
      left; rw [hr'.1]; rfl
    · have holds : ∀ j u, xs[j]? = some u → w.cell? ((⟨g, 0, none⟩ : Addr).add j) = some u := hown.cells (g := g) rfl
      have hxl : xs.length = n := by simpa using hown.1
      have hr' := Lib.run_append_grow_string (P := P) w t u ty e i (.int .u8 0) ht hu hi hz ⟨g, 0, none⟩ n cap xs (by rw [hsize]; simpa using hxl) holds s (by omega) (by omega) (by rw [hby]; exact growslice_fits (by omega) (by omega))
      rw [hr] at hr'
      simp only [Result.ok.injEq] at hr'
      right; rw [hr'.1]; rfl

theorem wp_append_str {P : Program} {op : Oper} {a : Act} {K : Act → World → Prop} {Q : Exit → Act → World → Prop} (w : World) (s x : Operand) (t u : TypeId)
    (ho : op.op = .call { callee := .builtin .append, args := #[s, x], argTypes := #[t, u] }) (v : Value) (S : ByteArray) (hs : a.eval s = v) (hx : a.eval x = .string S) (v' : Value) (w' : World)
    (hr : (Builtin.append_ #[t, u] op.type #[v, .string S]).run P w = .ok v' w') (h : K (a.put op.dst v') w') : op.wp P a w K Q := by
  unfold Oper.wp execOp
  simp only [ho, resolve, invoke, builtin, Sem.run_bind, Sem.run_pure, Result.andThen_ok, List.map_toArray, List.map_cons, List.map_nil, hs, hx, hr]
  exact h

def PM.sendB (m : PM) (k : Nat) (s : ByteArray) : PM := { m with con := upd m.con k { m.con k with sent := (m.con k).sent ++ nums s } }

section
variable {o : Nat → Tag} {q : Nat} {w : World} {b : Nat} {m : PM} {sv : Nat → Value} {rv : Value}

theorem fcells_sendB (m : PM) (sv : Nat → Value) (rv v : Value) (k : Nat) (hk : k < 4) (s : ByteArray) :
    (fcells m sv rv).set (8 + k * 3 + 2) v = fcells (m.sendB k s) (upd sv k v) rv := by
  rcases k with _ | _ | _ | _ | k <;> first | rfl | omega

/-- What was sent over a connection is longer from now on. -/
theorem FMem.newSent {w1 : World} {k : Nat} (h : FMem o q w b m sv rv) (hk : k < 4) (s : ByteArray) (v : Value) (own : w1.ownsRow 0 5 1 v ((m.con k).sent.length + s.size) ((m.con k).sent.map (Value.int .u8) ++ Lib.strCells s))
    (hg : w.grownBy w1 (sv k).ownBlock) (hat : v.ownBlock = (sv k).ownBlock ∨ v.ownBlock = some w.heap.size) :
    ∃ o', FMem o' q (w1.setCell ⟨b, 8 + k * 3 + 2, none⟩ v) b (m.sendB k s) (upd sv k v) rv ∧ Fr q o w o' (w1.setCell ⟨b, 8 + k * 3 + 2, none⟩ v) := by
  have hbl := h.blk.lt
  have hlt := own.lt
  have hsl := (h.sent k hk).1.lt
  have hst := (h.sent k hk).2
  let o' : Nat → Tag := fun g => if v.ownBlock = some g then (q, 2 + k) else o g
  have oold : ∀ g, g < w.heap.size → o' g = o g := by
    intro g hgl
    by_cases e : v.ownBlock = some g
    · simp only [o', if_pos e]
      rcases hat with h1 | h1
      · rw [h1] at e; exact (hst g e).symm
      · rw [h1] at e; simp at e; omega
    · simp only [o', if_neg e]
  have hsz : (w1.setCell ⟨b, 8 + k * 3 + 2, none⟩ v).heap.size = w1.heap.size := by simp [World.setCell]
  have hcl : Clean o' (w1.setCell ⟨b, 8 + k * 3 + 2, none⟩ v) := by
    intro g hgl
    rw [hsz] at hgl
    have e : ¬ v.ownBlock = some g := by intro e; have := (hlt g e).2; omega
    simp only [o', if_neg e]
    exact h.clean g (Nat.le_trans hg.size hgl)
  have hnb : some b ≠ (sv k).ownBlock := by intro e; have := hst b e.symm; rw [h.tag] at this; simp at this; omega
  have hoth : ∀ g, g < w.heap.size → g ≠ b → some g ≠ (sv k).ownBlock → (w1.setCell ⟨b, 8 + k * 3 + 2, none⟩ v).heap[g]? = w.heap[g]? := by
    intro g hgl hne hn2
    rw [Below.heap_setCell _ _ _ g hne]; exact hg.block g hgl hn2
  have hvb : ∀ g, v.ownBlock = some g → g ≠ b := by
    intro g e
    rcases hat with h1 | h1
    · rw [h1] at e; rintro rfl; exact hnb e.symm
    · rw [h1] at e; simp at e; omega
  refine ⟨o', ⟨hcl, (oold b hbl).trans h.tag, ?_, fun j hj => ?_, ?_, h.few⟩, ⟨hg.os, hg.tape, hg.output, by rw [hsz]; exact hg.size, hcl, oold, fun g hgl hq => hoth g hgl ?_ ?_⟩⟩
  · have b1 : Blk w1 b _ _ := h.blk.keep (hg.block b hbl hnb)
    have := b1.set (8 + k * 3 + 2) v
    rw [fcells_sendB m sv rv v k hk s] at this
    exact this
  · by_cases e : j = k
    · subst e
      simp only [PM.sendB, upd_same]
      refine ⟨?_, fun g hgv => by simp only [o', if_pos hgv]⟩
      have own2 := own_keepAt own (w' := w1.setCell ⟨b, 8 + j * 3 + 2, none⟩ v) (fun g hgv => Below.heap_setCell _ _ _ g (hvb g hgv)) (Nat.le_refl _)
      rw [List.length_append, nums_length, List.map_append, ← strCells_nums]
      exact own2
    · simp only [PM.sendB, upd_other _ _ e]
      refine (h.sent j hj).keep oold fun g hgl ht => hoth g hgl ?_ ?_
      · rintro rfl; rw [h.tag] at ht; simp at ht; omega
      · intro e2; have := hst g e2.symm; rw [ht] at this; simp at this; omega
  · refine h.reqs.keep oold fun g hgl ht => hoth g hgl ?_ ?_
    · rintro rfl; rw [h.tag] at ht; simp at ht
    · intro e2; have := hst g e2.symm; rw [ht] at this; simp at this; omega
  · rintro rfl; rw [h.tag] at hq; exact hq rfl
  · intro e2; have := hst g e2.symm; rw [this] at hq; exact hq rfl

set_option maxRecDepth 100000 in
set_option maxHeartbeats 2000000 in
theorem send_any (h : FMem o q w b m sv rv) (n : Nat) (hn : n < 4) (k i : Int) (c : ByteArray) (hmax : (m.con n).sent.length ≤ 1000000000000) :
    Calls Try.prog 101 #[.pointer (some ⟨b, 0, none⟩), .int .i64 n, .agg #[.int .i64 k, .int .i64 i, .string c]] w fun r w' => r = .returned (.tuple #[]) ∧ ∃ o' sv', FMem o' q w' b (m.sendB n (encB k i c)) sv' rv ∧ Fr q o w o' w' := by
  obtain ⟨i0, hi, hz0, hz1, hz2⟩ := info_parts info5
  have hE : ∃ e, Hid (∀ w, Calls Try.prog 44 #[.agg #[.int .i64 k, .int .i64 i, .string c]] w fun r w' => r = .returned (.tuple #[.string (encB k i c), .int .i64 e]) ∧ Below w.heap.size w w') := ⟨_, fun w => encode_any k i c w⟩
  obtain ⟨e, hE⟩ := hE
  have hsz := encB_size k i c
  generalize encB k i c = E at *
  go_enter Try.func101, Try.ntmps101
  go_wp2_with fail
  refine (hE.out _).mono ?_
  rintro e1 w1 ⟨rfl, hb1⟩
  have hb1' : Below w.heap.size w w1 := ((Below.refl _ _).alloc (Nat.le_refl _) _).trans (hb1.mono (by simp))
  have hm1 := h.below hb1'
  have fr1 := Fr.of_below (q := q) h.clean hb1'
  clear hb1 hb1' hE h
  go_wp2_with fail
  have hmd := hm1.below (Below.refl _ _).drew
  have c2 := hmd.sentv hn
  have hform := (hmd.sent n hn).form
  obtain ⟨asv, csv, hsv, -, -⟩ := hform
  rw [hsv] at c2
  obtain ⟨v', w2, hr, own2, hg2, hat2⟩ := append_str_at (P := Try.prog) w1.drew 86 9 86 5 i0 Try.underlying86 Try.underlying9 hi hz0 hz1 hz2 (sv n) _ _ (hmd.sent n hn).1 E (by omega)
  have own2' := own2
  obtain ⟨av, cv, hv', -, -⟩ := own_slice own2
  subst hv'
  have hnb : some b ≠ (sv n).ownBlock := by intro e; have := (hmd.sent n hn).2 b e.symm; rw [hmd.tag] at this; simp at this; omega
  have bk2 : Blk w2 b _ _ := hmd.blk.keep (hg2.block b hmd.blk.lt hnb)
  have d2 : w2.cell? ⟨b, 8 + n * 3 + 2, none⟩ = some (sv n) := by
    refine bk2.cell ?_
    rcases n with _ | _ | _ | _ | n <;> first | rfl | omega
  have fz := bk2.frozen
  obtain ⟨o', hm3, fr3⟩ := hmd.newSent hn E _ own2 hg2 hat2
  have frA := (fr1.below (Below.refl _ _).drew).trans fr3
  rw [hsv] at hr d2
  have hnI : (n : Int) < 4 := by omega
  refine wp_region_noPanic ?_
  refine wp_region_held_drew (S := fun _ => True) (by kernel_rfl) trivial (fun hHeld => ?_)
  refine take_at (i := 0) (v := ?_) rfl (by kernel_rfl) (by kernel_rfl) (by kernel_rfl) (fun _ _ _ h => h) (by rfl) ?_ trivial ?_
  rotate_left
  · (intro wx _; go_simp; with_reducible rfl)
  simp only [Act.put, List.setIfInBounds_toArray, List.set_cons_zero, List.set_cons_succ]
  refine take_at (i := 1) (v := ?_) rfl (by kernel_rfl) (by kernel_rfl) (by kernel_rfl) (fun _ _ _ h => h) (by rfl) ?_ trivial ?_
  rotate_left
  · (intro wx _; go_simp; with_reducible rfl)
  simp only [Act.put, List.setIfInBounds_toArray, List.set_cons_zero, List.set_cons_succ]
  refine take_at (i := 2) (v := ?_) rfl (by kernel_rfl) (by kernel_rfl) (by kernel_rfl) (fun _ _ _ h => h) (by rfl) ?_ trivial ?_
  rotate_left
  · (intro wx _; go_simp; with_reducible rfl)
  simp only [Act.put, List.setIfInBounds_toArray, List.set_cons_zero, List.set_cons_succ]
  refine take_at (i := 3) (v := ?_) rfl (by kernel_rfl) (by kernel_rfl) (by kernel_rfl) (fun _ _ _ h => h) (by rfl) ?_ trivial ?_
  rotate_left
  · (intro wx _; go_simp; with_reducible rfl)
  simp only [Act.put, List.setIfInBounds_toArray, List.set_cons_zero, List.set_cons_succ]
  refine take_at (i := 4) (v := ?_) rfl (by kernel_rfl) (by kernel_rfl) (by kernel_rfl) (fun _ _ _ h => h) (by rfl) ?_ trivial ?_
  rotate_left
  · (intro wx _; go_simp; with_reducible rfl)
  simp only [Act.put, List.setIfInBounds_toArray, List.set_cons_zero, List.set_cons_succ]
  refine take_at (i := 5) (v := ?_) rfl (by kernel_rfl) (by kernel_rfl) (by kernel_rfl) (fun _ _ _ h => h) (by rfl) ?_ trivial ?_
  rotate_left
  · (intro wx _; go_simp; with_reducible rfl)
  simp only [Act.put, List.setIfInBounds_toArray, List.set_cons_zero, List.set_cons_succ]
  refine take_at (i := 6) (v := ?_) rfl (by kernel_rfl) (by kernel_rfl) (by kernel_rfl) (fun _ _ _ h => h) (by rfl) ?_ trivial ?_
  rotate_left
  · (intro wx _; go_simp; with_reducible rfl)
  simp only [Act.put, List.setIfInBounds_toArray, List.set_cons_zero, List.set_cons_succ]
  refine take_at (i := 7) (v := ?_) rfl (by kernel_rfl) (by kernel_rfl) (by kernel_rfl) (fun _ _ _ h => h) (by rfl) ?_ trivial ?_
  rotate_left
  · (intro wx _; go_simp; with_reducible rfl)
  simp only [Act.put, List.setIfInBounds_toArray, List.set_cons_zero, List.set_cons_succ]
  refine take_at (i := 9) (v := ?_) rfl (by kernel_rfl) (by kernel_rfl) (by kernel_rfl) (fun _ _ _ h => h) (by rfl) ?_ trivial ?_
  rotate_left
  · (intro wx _; go_simp; with_reducible rfl)
  simp only [Act.put, List.setIfInBounds_toArray, List.set_cons_zero, List.set_cons_succ]
  refine take_at (i := 11) (v := ?_) rfl (by kernel_rfl) (by kernel_rfl) (by kernel_rfl) (fun _ _ _ h => h) (by rfl) ?_ trivial ?_
  rotate_left
  · (intro wx _; go_simp; with_reducible rfl)
  simp only [Act.put, List.setIfInBounds_toArray, List.set_cons_zero, List.set_cons_succ]
  refine take_at (i := 12) (v := ?_) rfl (by kernel_rfl) (by kernel_rfl) (by kernel_rfl) (fun _ _ _ h => h) (by rfl) ?_ trivial ?_
  rotate_left
  · (intro wx _; go_simp; with_reducible rfl)
  simp only [Act.put, List.setIfInBounds_toArray, List.set_cons_zero, List.set_cons_succ]
  refine only_at (i := 8) rfl (by kernel_rfl) (by rfl) (fun K hK => ?_)
  go_simp
  refine hK.out _ _ trivial ?_
  clear hK K hHeld
  refine only_at (i := 10) rfl (by kernel_rfl) (by rfl) (fun K hK => ?_)
  refine wp_append_str _ _ _ 86 9 rfl _ E rfl rfl _ w2 hr ?_
  refine hK.out _ _ trivial ?_
  clear hK K
  simp only [Act.put, List.setIfInBounds_toArray, List.set_cons_zero, List.set_cons_succ]
  refine take_at (i := 13) (v := ?_) rfl (by kernel_rfl) (by kernel_rfl) (by kernel_rfl) (fun _ _ _ h => h) (by rfl) ?_ trivial ?_
  rotate_left
  · (intro wx _; go_simp; with_reducible rfl)
  simp only [Act.put, List.setIfInBounds_toArray, List.set_cons_zero, List.set_cons_succ]
  refine take_at (i := 14) (v := ?_) rfl (by kernel_rfl) (by kernel_rfl) (by kernel_rfl) (fun _ _ _ h => h) (by rfl) ?_ trivial ?_
  rotate_left
  · (intro wx _; go_simp; with_reducible rfl)
  simp only [Act.put, List.setIfInBounds_toArray, List.set_cons_zero, List.set_cons_succ]
  refine only_at (i := 15) rfl (by kernel_rfl) (by rfl) (fun K hK => ?_)
  go_simp
  refine hK.out _ _ trivial ?_
  clear hK K
  refine wpAnyH_done (by kernel_rfl) ?_ _
  refine NoPanic.normal ?_
  clear d2 fz c2
  go_wp2
  exact bodyPost_end (v := .tuple #[]) (by simp [results, Try.results101, go_sem]) rfl ⟨rfl, o', _, hm3, frA⟩
end
end Go.Proofs.Ytlafkpaljibonaa

namespace Go.Proofs.Ytlafkpaljibonaa
open Go.RowKit

/-- append of a string onto bytes of whose block only the cells are known. -/
theorem append_bytes {P : Program} (w : World) (t u ty e : TypeId) (i : TypeInfo) (ht : P.underlying t = some (.slice e)) (hu : P.underlying u = some .string) (hi : P.info? e = some i) (hz : i.zero = some (.int .u8 0))
    (hsize : i.size = 1) (hby : i.bytes = 1) (g n cap : Nat) (xs : List Int) (hx : xs.length = n) (hc : ∀ j (h : j < n), w.cell? ⟨g, j, none⟩ = some (.int .u8 (xs[j]'(by omega))))
    (hroom : ∀ j, j < cap → (w.cell? ⟨g, j, none⟩).isSome = true ∧ w.frozen? ⟨g, j, none⟩ = false) (s : ByteArray) (hn : n + s.size ≤ 100000000000000) :
    ∃ g' cap' w', (Builtin.append_ #[t, u] ty #[.slice (some ⟨g, 0, none⟩) n cap, .string s]).run P w = .ok (.slice (some ⟨g', 0, none⟩) (n + s.size) cap') w' ∧
      (∀ j, j < n + s.size → w'.cell? ⟨g', 0 + j, none⟩ = some (.int .u8 ((xs ++ nums s).getD j 0))) ∧ w.grownBy w' (some g) := by
  have hsl : (Lib.strCells s).length = s.size := Lib.strCells_length s
  have hget : ∀ j, j < s.size → (Lib.strCells s)[j]? = some (.int .u8 ((nums s).getD j 0)) := by
    intro j hj
    rw [strCells_nums]
    have : j < (nums s).length := by rw [nums_length]; exact hj
    simp [List.getElem?_map, List.getElem?_eq_getElem this, List.getD]
  by_cases hr : n + s.size ≤ cap
  · have hf := Lib.run_firstCells_string (P := P) w 1 s
    have hst := run_storeCells_cells (P := P) g n (Lib.strCells s) 0 w (fun j hj => (hroom (n + 0 + j) (by omega)).1) (fun j hj => (hroom (n + 0 + j) (by omega)).2) (Lib.strCells_oneCell s)
    simp only [Nat.add_zero] at hst
    refine ⟨g, cap, w.setCells g n (Lib.strCells s), ?_, ?_, ?_⟩
    · simp [Builtin.append_, run_underlying ht, run_underlying hu, sizeOf, typeInfo, hi, hsize, Builtin.lenOf, hr, hf, Addr.add_lit, hst]
    · intro j hj
      rw [Nat.zero_add]
      by_cases hjn : j < n
      · rw [World.cell?_setCells_out g _ _ _ _ (fun _ _ => .inl hjn), hc j hjn]
        simp [List.getD, List.getElem?_append_left (by omega : j < xs.length), List.getElem?_eq_getElem (by omega : j < xs.length)]
      · have e : j = n + (j - n) := by omega
        have hlt : j - n < (Lib.strCells s).length := by rw [hsl]; omega
        have := World.cell?_setCells_in g (Lib.strCells s) n w (fun j hj => (hroom (n + j) (by omega)).1) (j - n) hlt
        rw [← e] at this
        rw [this]
        have h2 := hget (j - n) (by omega)
        rw [List.getElem?_eq_getElem hlt] at h2
        rw [h2]
        congr 2
        simp [List.getD, List.getElem?_append_right (by omega : xs.length ≤ j), hx]
    · refine ⟨World.os_setCells _ _ _ _, ?_, ?_, ?_, fun k hk hkg => World.heap_setCells_other w g n _ hk (by simpa using hkg)⟩
      · have : ∀ (vs : List Value) (o : Nat) (w : World), (w.setCells g o vs).tape = w.tape := by
          intro vs; induction vs with
          | nil => intro o w; rfl
          | cons v r ih => intro o w; show ((w.setCell _ v).setCells g (o + 1) r).tape = _; rw [ih]; rfl
        exact this _ _ _
      · have : ∀ (vs : List Value) (o : Nat) (w : World), (w.setCells g o vs).output = w.output := by
          intro vs; induction vs with
          | nil => intro o w; rfl
          | cons v r ih => intro o w; show ((w.setCell _ v).setCells g (o + 1) r).output = _; rw [ih]; rfl
        exact this _ _ _
      · have : ∀ (vs : List Value) (o : Nat) (w : World), (w.setCells g o vs).heap.size = w.heap.size := by
          intro vs; induction vs with
          | nil => intro o w; rfl
          | cons v r ih => intro o w; show ((w.setCell _ v).setCells g (o + 1) r).heap.size = _; rw [ih]; simp [World.setCell]
        rw [this]; exact Nat.le_refl _
  · have holds : ∀ j u, (xs.map (Value.int .u8))[j]? = some u → w.cell? ((⟨g, 0, none⟩ : Addr).add j) = some u := by
      intro j v hv
      rw [Addr.add_mid, Nat.zero_add]
      have hj : j < xs.length := by
        rcases Nat.lt_or_ge j xs.length with h | h
        · exact h
        · rw [List.getElem?_eq_none (by simpa using h)] at hv; cases hv
      rw [hc j (by omega)]
      simpa [List.getElem?_map, List.getElem?_eq_getElem hj] using hv
    have hr' := Lib.run_append_grow_string (P := P) w t u ty e i (.int .u8 0) ht hu hi hz ⟨g, 0, none⟩ n cap (xs.map (Value.int .u8)) (by rw [hsize]; simpa using hx) holds s (by omega) (by omega) (by rw [hby]; exact growslice_fits (by omega) (by omega))
    refine ⟨w.heap.size, _, _, hr', ?_, ⟨rfl, rfl, rfl, by simp, fun k hk _ => Below.heap_alloc w.drew _ k hk⟩⟩
    intro j hj
    rw [Nat.zero_add, cell_of_row _ w.heap.size j _ e (0, 0) (heap_alloc_new w.drew _)]
    rw [← Array.getElem?_toList]
    simp only [Array.toList_append, List.append_assoc]
    by_cases hjn : j < n
    · rw [List.getElem?_append_left (by simp; omega)]
      simp [List.getElem?_map, List.getD, List.getElem?_append_left (by omega : j < xs.length), List.getElem?_eq_getElem (by omega : j < xs.length)]
    · rw [List.getElem?_append_right (by simp; omega)]
      rw [List.getElem?_append_left (by simp [hsl]; omega)]
      have h2 := hget (j - n) (by omega)
      simp only [List.length_map, hx]
      rw [h2]
      congr 2
      simp [List.getD, List.getElem?_append_right (by omega : xs.length ≤ j), hx]

theorem bytesRow_size (s : ByteArray) (cap : Nat) (h : s.size ≤ cap) : (bytesRow s cap).size = cap := by
  have : s.data.size = s.size := rfl
  simp only [bytesRow, Array.size_append, Array.size_map, Array.size_replicate, this]
  omega

theorem nums_get (s : ByteArray) (j : Nat) (h : j < s.size) (h2 : j < (nums s).length) : (nums s)[j] = ((s.data[j]'h).toNat : Int) := by
  simp [nums]

set_option maxRecDepth 100000 in
set_option maxHeartbeats 2000000 in
theorem joined_any (a c : ByteArray) (w : World) (ha : a.size ≤ 10000000000000) (hc : c.size ≤ 10000000000000) :
    Calls Try.prog 85 #[.string a, .string c] w fun r w' => r = .returned (.string (a ++ c)) ∧ Below w.heap.size w w' := by
  obtain ⟨i0, hi, hz0, hz1, hz2⟩ := info_parts info5
  have hcv := run_bytes_of_string (P := Try.prog) w 9 86 5 a Try.underlying9 Try.underlying86 Try.underlying5
  have hge := grownCap_ge w a.size 0 5
  generalize grownCap w a.size 0 5 = cap at *
  have hbs := bytesRow_size a cap hge
  have hA : (w.drew.alloc (.cells (bytesRow a cap) 5 ((bytesRow a cap).size, (bytesRow a cap).size + 1))).heap[w.heap.size]? = some (.cells (bytesRow a cap) 5 ((bytesRow a cap).size, (bytesRow a cap).size + 1)) := heap_alloc_new w.drew _
  have hB : Below w.heap.size w (w.drew.alloc (.cells (bytesRow a cap) 5 ((bytesRow a cap).size, (bytesRow a cap).size + 1))) := (Below.refl _ _).drew.alloc (Nat.le_refl _) _
  generalize w.drew.alloc (.cells (bytesRow a cap) 5 ((bytesRow a cap).size, (bytesRow a cap).size + 1)) = w1 at *
  have hcell : ∀ j, w1.cell? ⟨w.heap.size, j, none⟩ = (bytesRow a cap)[j]? := fun j => cell_of_row w1 w.heap.size j _ _ _ hA
  obtain ⟨g', cap', w2, hr, hcells, hg⟩ := append_bytes (P := Try.prog) w1 86 9 86 5 i0 Try.underlying86 Try.underlying9 hi hz0 hz1 hz2 w.heap.size a.size cap (nums a) (nums_length a)
    (fun j h => by rw [hcell, bytesRow_at a cap j h, nums_get a j h]) (fun j h => ⟨by rw [hcell, Array.getElem?_eq_getElem (by omega)]; rfl, by simp [World.frozen?, hA, hbs]; omega⟩) c (by omega)
  have hcv2 := run_convert_bytes_arg (P := Try.prog) w2 86 5 Try.underlying86 Try.underlying5 g' 0 (a.size + c.size) cap' (nums a ++ nums c) (by simp [nums_length]) hcells 9 Try.underlying9
  have hstr : strOfNums (nums a ++ nums c) = a ++ c := by rw [← strOfNums_append, strOfNums_nums, strOfNums_nums]
  rw [hstr] at hcv2
  have hfin : Below w.heap.size w w2 := hB.grown hg hB.size (fun k e => by simp at e; omega)
  clear hcells hg hcell hA hbs
  go_enter Try.func85, Try.ntmps85
  go_wp2_with (at_builtin; refine wpList_plain rfl fun K hK => wp_append_str _ _ _ 86 9 rfl _ c rfl rfl _ w2 hr (hK _ _ ?_))
  go_ret
  exact ⟨rfl, hfin⟩
end Go.Proofs.Ytlafkpaljibonaa
