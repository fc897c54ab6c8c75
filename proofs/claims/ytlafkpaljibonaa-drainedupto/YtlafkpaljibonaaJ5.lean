import Derived.Test.YtlafkpaljibonaaJ4
import Derived.Test.YtlafkpaljibonaaJ1
import Derived.Deep.Upon
namespace Go.Proofs.Ytlafkpaljibonaa
open Go.RowKit

def findFrom (c i : Int) : List Req → Nat → Option Nat
  | [], _ => none
  | r :: l, k => cond (isKey c i r) (some k) (findFrom c i l (k + 1))
def PM.find (m : PM) (c i : Int) : Option Nat := findFrom c i m.req 0

theorem findFrom_drop (c i : Int) (l : List Req) (k : Nat) (hk : k < l.length) : findFrom c i (l.drop k) k = cond (isKey c i l[k]) (some k) (findFrom c i (l.drop (k + 1)) (k + 1)) := by
  rw [List.drop_eq_getElem_cons hk]; rfl

theorem findFrom_some (c i : Int) (l : List Req) (k a : Nat) (h : findFrom c i l k = some a) : ∃ (_ : k ≤ a) (hl : a - k < l.length), isKey c i l[a - k] = true := by
  induction l generalizing k with
  | nil => simp [findFrom] at h
  | cons r l ih =>
    simp only [findFrom] at h
    cases hr : isKey c i r
    · rw [hr] at h
      obtain ⟨h1, h2, h3⟩ := ih (k + 1) h
      have e : a - k = (a - (k + 1)) + 1 := by omega
      refine ⟨by omega, by simp only [List.length_cons]; omega, ?_⟩
      simp only [e, List.getElem_cons_succ]; exact h3
    · rw [hr] at h
      simp only [cond_true, Option.some.injEq] at h
      subst h
      refine ⟨Nat.le_refl _, by simp, ?_⟩
      simp only [Nat.sub_self, List.getElem_cons_zero]; exact hr

theorem PM.find_some (m : PM) (c i : Int) (a : Nat) (h : m.find c i = some a) : ∃ (hl : a < m.req.length), m.req[a].conn = c ∧ m.req[a].id = i := by
  obtain ⟨_, h2, h3⟩ := findFrom_some c i m.req 0 a h
  simp only [Nat.sub_zero] at h2 h3
  simp only [isKey, Bool.and_eq_true, beq_iff_eq] at h3
  exact ⟨h2, h3⟩

section
variable {o : Nat → Tag} {q : Nat} {w : World} {b : Nat} {m : PM} {sv : Nat → Value} {rv : Value}

set_option maxRecDepth 100000 in
set_option maxHeartbeats 2000000 in
theorem find_any (h : FMem o q w b m sv rv) (c i : Int) :
    Calls Try.prog 104 #[.pointer (some ⟨b, 0, none⟩), .agg #[.int .i64 c, .int .i64 i]] w fun r w' => r = .returned (fwV (m.find c i)) ∧ Below w.heap.size w w' := by
  obtain ⟨ao, cp, rfl, hn, hrow⟩ := h.list
  have h1 := fun ob => (h.alloc ob).reqv
  have x0 := Blk.made w 109 [.int .i64 c, .int .i64 i]
  go_enter Try.func104, Try.ntmps104
  go_wp2
  go_loopw [13] (fun j w' => ∃ k : Nat, k ≤ m.req.length ∧ j = .int .i64 k ∧ m.find c i = findFrom c i (m.req.drop k) k ∧ Blk w' w.heap.size 109 [.int .i64 c, .int .i64 i] ∧ Below w.heap.size w w') (fun j _ => m.req.length - (intOf j).toNat)
  case atStart => exact ⟨0, by omega, rfl, rfl, x0, (Below.refl _ _).alloc (Nat.le_refl _) _⟩
  case round =>
    clear x0 h1
    obtain ⟨k, hk, rfl, hfw, hx, hb⟩ := hrel
    have HF : Hid _ := hfw
    clear hfw
    by_cases hlt : k < m.req.length
    · obtain ⟨g, rfl, hg, -, -, c0, c1, c2, c3⟩ := hrow k hlt
      have HS : Hid _ := findFrom_drop c i m.req k hlt
      clear hrow
      rw [← hb.cell (by exact hg)] at c0 c1 c2 c3
      generalize m.req[k] = r at *
      have y0 := fun ob => (hx.below ((Below.refl _ _).alloc (Nat.le_refl _) ob)).cell (k := 0) (u := .int .i64 c) rfl
      have y1 := fun ob => (hx.below ((Below.refl _ _).alloc (Nat.le_refl _) ob)).cell (k := 1) (u := .int .i64 i) rfl
      have hxl := hx.lt
      by_cases h1 : r.conn = c
      · by_cases h2 : r.id = i
        · have HT : Hid (isKey c i r = true) := by show _ = _; simp [isKey, h1, h2]
          subst h1 h2
          go_wp2
          go_ret2
          refine ⟨?_, hb.alloc (Nat.le_of_lt hxl) _⟩
          rw [HF.out, HS.out, HT.out]; rfl
        · have HT : Hid (isKey c i r = false) := by show _ = _; simp [isKey, h2]
          subst h1
          go_wp2
          refine ⟨⟨k + 1, by omega, by go_num, ?_, hx.below ((Below.refl _ _).alloc (Nat.le_refl _) _), hb.alloc (Nat.le_of_lt hxl) _⟩, by simp [intOf]; omega⟩
          rw [HF.out, HS.out, HT.out]; rfl
      · have HT : Hid (isKey c i r = false) := by show _ = _; simp [isKey, h1]
        go_wp2
        refine ⟨⟨k + 1, by omega, by go_num, ?_, hx.below ((Below.refl _ _).alloc (Nat.le_refl _) _), hb.alloc (Nat.le_of_lt hxl) _⟩, by simp [intOf]; omega⟩
        rw [HF.out, HS.out, HT.out]; rfl
    · have : k = m.req.length := by omega
      go_wp2
      go_ret2
      refine ⟨?_, hb⟩
      rw [HF.out, this]
      simp [findFrom, fwV]

def PM.again (m : PM) (c i k : Int) : Bool := (m.find c i).isSome && k == 1

set_option maxRecDepth 100000 in
set_option maxHeartbeats 1000000 in
theorem beginsAgain_any (h : FMem o q w b m sv rv) (c i k : Int) :
    Calls Try.prog 83 #[.pointer (some ⟨b, 0, none⟩), .agg #[.int .i64 c, .int .i64 i], .int .i64 k] w fun r w' => r = .returned (.bool (m.again c i k)) ∧ Below w.heap.size w w' := by
  have kf : Hid (∀ w', FMem o q w' b m sv rv → Calls Try.prog 104 #[.pointer (some ⟨b, 0, none⟩), .agg #[.int .i64 c, .int .i64 i]] w' fun r w'' => r = .returned (fwV (m.find c i)) ∧ Below w'.heap.size w' w'') := fun w' h' => find_any h' c i
  unfold PM.again
  cases hf : m.find c i with
  | none =>
    rw [hf] at kf
    unfold fwV at kf
    go_enter Try.func83, Try.ntmps83
    go_wp2_with fail
    refine (kf.out _ (h.alloc _)).mono ?_
    rintro e w1 ⟨rfl, hb⟩
    go_wp2
    go_ret
    exact ⟨by simp, ((Below.refl _ _).alloc (Nat.le_refl _) _).trans (hb.mono (by simp))⟩
  | some a =>
    rw [hf] at kf
    unfold fwV at kf
    go_enter Try.func83, Try.ntmps83
    go_wp2_with fail
    refine (kf.out _ (h.alloc _)).mono ?_
    rintro e w1 ⟨rfl, hb⟩
    go_wp2
    go_ret
    exact ⟨by simp, ((Below.refl _ _).alloc (Nat.le_refl _) _).trans (hb.mono (by simp))⟩

end
end Go.Proofs.Ytlafkpaljibonaa

namespace Go.Proofs.Ytlafkpaljibonaa
open Go.RowKit

theorem append_str_at {P : Program} (w : World) (t u ty e : TypeId) (i : TypeInfo) (ht : P.underlying t = some (.slice e)) (hu : P.underlying u = some .string) (hi : P.info? e = some i) (hz : i.zero = some (.int .u8 0))
    (hsize : i.size = 1) (hby : i.bytes = 1) (v : Value) (n : Nat) (xs : List Value) (hown : w.ownsRow 0 e 1 v n xs) (s : ByteArray) (hn : n + s.size ≤ 100000000000000) :
    ∃ v' w', (Builtin.append_ #[t, u] ty #[v, .string s]).run P w = .ok v' w' ∧ w'.ownsRow 0 e 1 v' (n + s.size) (xs ++ Lib.strCells s) ∧ w.grownBy w' v.ownBlock ∧ (v'.ownBlock = v.ownBlock ∨ v'.ownBlock = some w.heap.size) := by
  obtain ⟨v', w', hr, h2, h3, h4⟩ := Lib.run_append_own_string (P := P) w 0 t u ty e i ht hu hi hz hsize hby v n xs hown s (by unfold maxLen; omega) (by omega) (Nat.zero_le _)
  refine ⟨v', w', hr, h2, h3, ?_⟩
  rcases hown.2 with ⟨rfl, rfl⟩ | ⟨g, cap, cur, rfl, hbg, hg, hnc, hcm, hcs, htake⟩
  · by_cases hs : s.size = 0
    · left; rw [h4.2 ⟨rfl, hs⟩]
    · have hr' := run_append_nil_string (P := P) w t u ty e i (.int .u8 0) ht hu hi hz s (by omega) (by omega) (by rw [hby]; omega)
      rw [hr] at hr'
      simp only [Result.ok.injEq] at hr'
      right; rw [hr'.1]; rfl
  · by_cases hroom : n + s.size ≤ cap
    · have hcs' : cur.size = cap := by simpa using hcs
      have hr' := Lib.run_append_room_string (P := P) w t u ty e i ht hu hi hsize g n cap cur hg s hroom (by omega)
      rw [hr] at hr'
      simp only [Result.ok.injEq] at hr'
      left; rw [hr'.1]; rfl
    · have holds : ∀ j u, xs[j]? = some u → w.cell? ((⟨g, 0, none⟩ : Addr).add j) = some u := hown.cells (g := g) rfl
      have hxl : xs.length = n := by simpa using hown.1
      have hr' := Lib.run_append_grow_string (P := P) w t u ty e i (.int .u8 0) ht hu hi hz ⟨g, 0, none⟩ n cap xs (by rw [hsize]; simpa using hxl) holds s (by omega) (by omega) (by rw [hby]; exact growslice_fits (by omega) (by omega))
      rw [hr] at hr'
      simp only [Result.ok.injEq] at hr'
      right; rw [hr'.1]; rfl

theorem wp_append_str {P : Program} {op : Oper} {a : Act} {K : Act → World → Prop} {Q : Exit → Act → World → Prop} (w : World) (s x : Operand) (t u : TypeId)
    (ho : op.op = .call { callee := .builtin .append, args := #[s, x], argTypes := #[t, u] }) (v : Value) (S : ByteArray) (hs : a.eval s = v) (hx : a.eval x = .string S) (v' : Value) (w' : World)
    (hr : (Builtin.append_ #[t, u] op.type #[v, .string S]).run P w = .ok v' w') (h : K (a.put op.dst v') w') : op.wp P a w K Q := by
  unfold Oper.wp execOp
  simp only [ho, resolve, invoke, builtin, Sem.run_bind, Sem.run_pure, Result.andThen_ok, List.map_toArray, List.map_cons, List.map_nil, hs, hx, hr]
  exact h

def PM.sendB (m : PM) (k : Nat) (s : ByteArray) : PM := { m with con := upd m.con k { m.con k with sent := (m.con k).sent ++ nums s } }

section
variable {o : Nat → Tag} {q : Nat} {w : World} {b : Nat} {m : PM} {sv : Nat → Value} {rv : Value}

theorem fcells_sendB (m : PM) (sv : Nat → Value) (rv v : Value) (k : Nat) (hk : k < 4) (s : ByteArray) :
    (fcells m sv rv).set (8 + k * 3 + 2) v = fcells (m.sendB k s) (upd sv k v) rv := by
  rcases k with _ | _ | _ | _ | k <;> first | rfl | omega

/-- What was sent over a connection is longer from now on. -/
theorem FMem.newSent {w1 : World} {k : Nat} (h : FMem o q w b m sv rv) (hk : k < 4) (s : ByteArray) (v : Value) (own : w1.ownsRow 0 5 1 v ((m.con k).sent.length + s.size) ((m.con k).sent.map (Value.int .u8) ++ Lib.strCells s))
    (hg : w.grownBy w1 (sv k).ownBlock) (hat : v.ownBlock = (sv k).ownBlock ∨ v.ownBlock = some w.heap.size) :
    ∃ o', FMem o' q (w1.setCell ⟨b, 8 + k * 3 + 2, none⟩ v) b (m.sendB k s) (upd sv k v) rv ∧ Fr q o w o' (w1.setCell ⟨b, 8 + k * 3 + 2, none⟩ v) := by
  have hbl := h.blk.lt
  have hlt := own.lt
  have hsl := (h.sent k hk).1.lt
  have hst := (h.sent k hk).2
  let o' : Nat → Tag := fun g => if v.ownBlock = some g then (q, 2 + k) else o g
  have oold : ∀ g, g < w.heap.size → o' g = o g := by
    intro g hgl
    by_cases e : v.ownBlock = some g
    · simp only [o', if_pos e]
      rcases hat with h1 | h1
      · rw [h1] at e; exact (hst g e).symm
      · rw [h1] at e; simp at e; omega
    · simp only [o', if_neg e]
  have hsz : (w1.setCell ⟨b, 8 + k * 3 + 2, none⟩ v).heap.size = w1.heap.size := by simp [World.setCell]
  have hcl : Clean o' (w1.setCell ⟨b, 8 + k * 3 + 2, none⟩ v) := by
    intro g hgl
    rw [hsz] at hgl
    have e : ¬ v.ownBlock = some g := by intro e; have := (hlt g e).2; omega
    simp only [o', if_neg e]
    exact h.clean g (Nat.le_trans hg.size hgl)
  have hnb : some b ≠ (sv k).ownBlock := by intro e; have := hst b e.symm; rw [h.tag] at this; simp at this; omega
  have hoth : ∀ g, g < w.heap.size → g ≠ b → some g ≠ (sv k).ownBlock → (w1.setCell ⟨b, 8 + k * 3 + 2, none⟩ v).heap[g]? = w.heap[g]? := by
    intro g hgl hne hn2
    rw [Below.heap_setCell _ _ _ g hne]; exact hg.block g hgl hn2
  have hvb : ∀ g, v.ownBlock = some g → g ≠ b := by
    intro g e
    rcases hat with h1 | h1
    · rw [h1] at e; rintro rfl; exact hnb e.symm
    · rw [h1] at e; simp at e; omega
  refine ⟨o', ⟨hcl, (oold b hbl).trans h.tag, ?_, fun j hj => ?_, ?_, h.few⟩, ⟨hg.os, hg.tape, hg.output, by rw [hsz]; exact hg.size, hcl, oold, fun g hgl hq => hoth g hgl ?_ ?_⟩⟩
  · have b1 : Blk w1 b _ _ := h.blk.keep (hg.block b hbl hnb)
    have := b1.set (8 + k * 3 + 2) v
    rw [fcells_sendB m sv rv v k hk s] at this
    exact this
  · by_cases e : j = k
    · subst e
      simp only [PM.sendB, upd_same]
      refine ⟨?_, fun g hgv => by simp only [o', if_pos hgv]⟩
      have own2 := own_keepAt own (w' := w1.setCell ⟨b, 8 + j * 3 + 2, none⟩ v) (fun g hgv => Below.heap_setCell _ _ _ g (hvb g hgv)) (Nat.le_refl _)
      rw [List.length_append, nums_length, List.map_append, ← strCells_nums]
      exact own2
    · simp only [PM.sendB, upd_other _ _ e]
      refine (h.sent j hj).keep oold fun g hgl ht => hoth g hgl ?_ ?_
      · rintro rfl; rw [h.tag] at ht; simp at ht; omega
      · intro e2; have := hst g e2.symm; rw [ht] at this; simp at this; omega
  · refine h.reqs.keep oold fun g hgl ht => hoth g hgl ?_ ?_
    · rintro rfl; rw [h.tag] at ht; simp at ht
    · intro e2; have := hst g e2.symm; rw [ht] at this; simp at this; omega
  · rintro rfl; rw [h.tag] at hq; exact hq rfl
  · intro e2; have := hst g e2.symm; rw [this] at hq; exact hq rfl

set_option maxRecDepth 100000 in
set_option maxHeartbeats 2000000 in
theorem send_any (h : FMem o q w b m sv rv) (n : Nat) (hn : n < 4) (k i : Int) (c : ByteArray) (hmax : (m.con n).sent.length ≤ 1000000000000) :
    Calls Try.prog 101 #[.pointer (some ⟨b, 0, none⟩), .int .i64 n, .agg #[.int .i64 k, .int .i64 i, .string c]] w fun r w' => r = .returned (.tuple #[]) ∧ ∃ o' sv', FMem o' q w' b (m.sendB n (encB k i c)) sv' rv ∧ Fr q o w o' w' := by
  obtain ⟨i0, hi, hz0, hz1, hz2⟩ := info_parts info5
  have hE : ∃ e, Hid (∀ w, Calls Try.prog 44 #[.agg #[.int .i64 k, .int .i64 i, .string c]] w fun r w' => r = .returned (.tuple #[.string (encB k i c), .int .i64 e]) ∧ Below w.heap.size w w') := ⟨_, fun w => encode_any k i c w⟩
  obtain ⟨e, hE⟩ := hE
  have hsz := encB_size k i c
  generalize encB k i c = E at *
  go_enter Try.func101, Try.ntmps101
  go_wp2_with fail
  refine (hE.out _).mono ?_
  rintro e1 w1 ⟨rfl, hb1⟩
  have hb1' : Below w.heap.size w w1 := ((Below.refl _ _).alloc (Nat.le_refl _) _).trans (hb1.mono (by simp))
  have hm1 := h.below hb1'
  have fr1 := Fr.of_below (q := q) h.clean hb1'
  clear hb1 hb1' hE h
  go_wp2_with fail
  have hmd := hm1.below (Below.refl _ _).drew
  have c2 := hmd.sentv hn
  have hform := (hmd.sent n hn).form
  obtain ⟨asv, csv, hsv, -, -⟩ := hform
  rw [hsv] at c2
  obtain ⟨v', w2, hr, own2, hg2, hat2⟩ := append_str_at (P := Try.prog) w1.drew 86 9 86 5 i0 Try.underlying86 Try.underlying9 hi hz0 hz1 hz2 (sv n) _ _ (hmd.sent n hn).1 E (by omega)
  have own2' := own2
  obtain ⟨av, cv, hv', -, -⟩ := own_slice own2
  subst hv'
  have hnb : some b ≠ (sv n).ownBlock := by intro e; have := (hmd.sent n hn).2 b e.symm; rw [hmd.tag] at this; simp at this; omega
  have bk2 : Blk w2 b _ _ := hmd.blk.keep (hg2.block b hmd.blk.lt hnb)
  have d2 : w2.cell? ⟨b, 8 + n * 3 + 2, none⟩ = some (sv n) := by
    refine bk2.cell ?_
    rcases n with _ | _ | _ | _ | n <;> first | rfl | omega
  have fz := bk2.frozen
  obtain ⟨o', hm3, fr3⟩ := hmd.newSent hn E _ own2 hg2 hat2
  have frA := (fr1.below (Below.refl _ _).drew).trans fr3
  rw [hsv] at hr d2
  have hnI : (n : Int) < 4 := by omega
  refine wp_region_noPanic ?_
  refine wp_region_held_drew (S := fun _ => True) (by kernel_rfl) trivial (fun hHeld => ?_)
  refine take_at (i := 0) (v := ?_) rfl (by kernel_rfl) (by kernel_rfl) (by kernel_rfl) (fun _ _ _ h => h) (by rfl) ?_ trivial ?_
  rotate_left
  · (intro wx _; go_simp; with_reducible rfl)
  simp only [Act.put, List.setIfInBounds_toArray, List.set_cons_zero, List.set_cons_succ]
  refine take_at (i := 1) (v := ?_) rfl (by kernel_rfl) (by kernel_rfl) (by kernel_rfl) (fun _ _ _ h => h) (by rfl) ?_ trivial ?_
  rotate_left
  · (intro wx _; go_simp; with_reducible rfl)
  simp only [Act.put, List.setIfInBounds_toArray, List.set_cons_zero, List.set_cons_succ]
  refine take_at (i := 2) (v := ?_) rfl (by kernel_rfl) (by kernel_rfl) (by kernel_rfl) (fun _ _ _ h => h) (by rfl) ?_ trivial ?_
  rotate_left
  · (intro wx _; go_simp; with_reducible rfl)
  simp only [Act.put, List.setIfInBounds_toArray, List.set_cons_zero, List.set_cons_succ]
  refine take_at (i := 3) (v := ?_) rfl (by kernel_rfl) (by kernel_rfl) (by kernel_rfl) (fun _ _ _ h => h) (by rfl) ?_ trivial ?_
  rotate_left
  · (intro wx _; go_simp; with_reducible rfl)
  simp only [Act.put, List.setIfInBounds_toArray, List.set_cons_zero, List.set_cons_succ]
  refine take_at (i := 4) (v := ?_) rfl (by kernel_rfl) (by kernel_rfl) (by kernel_rfl) (fun _ _ _ h => h) (by rfl) ?_ trivial ?_
  rotate_left
  · (intro wx _; go_simp; with_reducible rfl)
  simp only [Act.put, List.setIfInBounds_toArray, List.set_cons_zero, List.set_cons_succ]
  refine take_at (i := 5) (v := ?_) rfl (by kernel_rfl) (by kernel_rfl) (by kernel_rfl) (fun _ _ _ h => h) (by rfl) ?_ trivial ?_
  rotate_left
  · (intro wx _; go_simp; with_reducible rfl)
  simp only [Act.put, List.setIfInBounds_toArray, List.set_cons_zero, List.set_cons_succ]
  refine take_at (i := 6) (v := ?_) rfl (by kernel_rfl) (by kernel_rfl) (by kernel_rfl) (fun _ _ _ h => h) (by rfl) ?_ trivial ?_
  rotate_left
  · (intro wx _; go_simp; with_reducible rfl)
  simp only [Act.put, List.setIfInBounds_toArray, List.set_cons_zero, List.set_cons_succ]
  refine take_at (i := 7) (v := ?_) rfl (by kernel_rfl) (by kernel_rfl) (by kernel_rfl) (fun _ _ _ h => h) (by rfl) ?_ trivial ?_
  rotate_left
  · (intro wx _; go_simp; with_reducible rfl)
  simp only [Act.put, List.setIfInBounds_toArray, List.set_cons_zero, List.set_cons_succ]
  refine take_at (i := 9) (v := ?_) rfl (by kernel_rfl) (by kernel_rfl) (by kernel_rfl) (fun _ _ _ h => h) (by rfl) ?_ trivial ?_
  rotate_left
  · (intro wx _; go_simp; with_reducible rfl)
  simp only [Act.put, List.setIfInBounds_toArray, List.set_cons_zero, List.set_cons_succ]
  refine take_at (i := 11) (v := ?_) rfl (by kernel_rfl) (by kernel_rfl) (by kernel_rfl) (fun _ _ _ h => h) (by rfl) ?_ trivial ?_
  rotate_left
  · (intro wx _; go_simp; with_reducible rfl)
  simp only [Act.put, List.setIfInBounds_toArray, List.set_cons_zero, List.set_cons_succ]
  refine take_at (i := 12) (v := ?_) rfl (by kernel_rfl) (by kernel_rfl) (by kernel_rfl) (fun _ _ _ h => h) (by rfl) ?_ trivial ?_
  rotate_left
  · (intro wx _; go_simp; with_reducible rfl)
  simp only [Act.put, List.setIfInBounds_toArray, List.set_cons_zero, List.set_cons_succ]
  refine only_at (i := 8) rfl (by kernel_rfl) (by rfl) (fun K hK => ?_)
  go_simp
  refine hK.out _ _ trivial ?_
  clear hK K hHeld
  refine only_at (i := 10) rfl (by kernel_rfl) (by rfl) (fun K hK => ?_)
  refine wp_append_str _ _ _ 86 9 rfl _ E rfl rfl _ w2 hr ?_
  refine hK.out _ _ trivial ?_
  clear hK K
  simp only [Act.put, List.setIfInBounds_toArray, List.set_cons_zero, List.set_cons_succ]
  refine take_at (i := 13) (v := ?_) rfl (by kernel_rfl) (by kernel_rfl) (by kernel_rfl) (fun _ _ _ h => h) (by rfl) ?_ trivial ?_
  rotate_left
  · (intro wx _; go_simp; with_reducible rfl)
  simp only [Act.put, List.setIfInBounds_toArray, List.set_cons_zero, List.set_cons_succ]
  refine take_at (i := 14) (v := ?_) rfl (by kernel_rfl) (by kernel_rfl) (by kernel_rfl) (fun _ _ _ h => h) (by rfl) ?_ trivial ?_
  rotate_left
  · (intro wx _; go_simp; with_reducible rfl)
  simp only [Act.put, List.setIfInBounds_toArray, List.set_cons_zero, List.set_cons_succ]
  refine only_at (i := 15) rfl (by kernel_rfl) (by rfl) (fun K hK => ?_)
  go_simp
  refine hK.out _ _ trivial ?_
  clear hK K
  refine wpAnyH_done (by kernel_rfl) ?_ _
  refine NoPanic.normal ?_
  clear d2 fz c2
  go_wp2
  exact bodyPost_end (v := .tuple #[]) (by simp [results, Try.results101, go_sem]) rfl ⟨rfl, o', _, hm3, frA⟩
end
end Go.Proofs.Ytlafkpaljibonaa

namespace Go.Proofs.Ytlafkpaljibonaa
open Go.RowKit

/-- append of a string onto bytes of whose block only the cells are known. -/
theorem append_bytes {P : Program} (w : World) (t u ty e : TypeId) (i : TypeInfo) (ht : P.underlying t = some (.slice e)) (hu : P.underlying u = some .string) (hi : P.info? e = some i) (hz : i.zero = some (.int .u8 0))
    (hsize : i.size = 1) (hby : i.bytes = 1) (g n cap : Nat) (xs : List Int) (hx : xs.length = n) (hc : ∀ j (h : j < n), w.cell? ⟨g, j, none⟩ = some (.int .u8 (xs[j]'(by omega))))
    (hroom : ∀ j, j < cap → (w.cell? ⟨g, j, none⟩).isSome = true ∧ w.frozen? ⟨g, j, none⟩ = false) (s : ByteArray) (hn : n + s.size ≤ 100000000000000) :
    ∃ g' cap' w', (Builtin.append_ #[t, u] ty #[.slice (some ⟨g, 0, none⟩) n cap, .string s]).run P w = .ok (.slice (some ⟨g', 0, none⟩) (n + s.size) cap') w' ∧
      (∀ j, j < n + s.size → w'.cell? ⟨g', 0 + j, none⟩ = some (.int .u8 ((xs ++ nums s).getD j 0))) ∧ w.grownBy w' (some g) := by
  have hsl : (Lib.strCells s).length = s.size := Lib.strCells_length s
  have hget : ∀ j, j < s.size → (Lib.strCells s)[j]? = some (.int .u8 ((nums s).getD j 0)) := by
    intro j hj
    rw [strCells_nums]
    have : j < (nums s).length := by rw [nums_length]; exact hj
    simp [List.getElem?_map, List.getElem?_eq_getElem this, List.getD]
  by_cases hr : n + s.size ≤ cap
  · have hf := Lib.run_firstCells_string (P := P) w 1 s
    have hst := run_storeCells_cells (P := P) g n (Lib.strCells s) 0 w (fun j hj => (hroom (n + 0 + j) (by omega)).1) (fun j hj => (hroom (n + 0 + j) (by omega)).2) (Lib.strCells_oneCell s)
    simp only [Nat.add_zero] at hst
    refine ⟨g, cap, w.setCells g n (Lib.strCells s), ?_, ?_, ?_⟩
    · simp [Builtin.append_, run_underlying ht, run_underlying hu, sizeOf, typeInfo, hi, hsize, Builtin.lenOf, hr, hf, Addr.add_lit, hst]
    · intro j hj
      rw [Nat.zero_add]
      by_cases hjn : j < n
      · rw [World.cell?_setCells_out g _ _ _ _ (fun _ _ => .inl hjn), hc j hjn]
        simp [List.getD, List.getElem?_append_left (by omega : j < xs.length), List.getElem?_eq_getElem (by omega : j < xs.length)]
      · have e : j = n + (j - n) := by omega
        have hlt : j - n < (Lib.strCells s).length := by rw [hsl]; omega
        have := World.cell?_setCells_in g (Lib.strCells s) n w (fun j hj => (hroom (n + j) (by omega)).1) (j - n) hlt
        rw [← e] at this
        rw [this]
        have h2 := hget (j - n) (by omega)
        rw [List.getElem?_eq_getElem hlt] at h2
        rw [h2]
        congr 2
        simp [List.getD, List.getElem?_append_right (by omega : xs.length ≤ j), hx]
    · refine ⟨World.os_setCells _ _ _ _, ?_, ?_, ?_, fun k hk hkg => World.heap_setCells_other w g n _ hk (by simpa using hkg)⟩
      · have : ∀ (vs : List Value) (o : Nat) (w : World), (w.setCells g o vs).tape = w.tape := by
          intro vs; induction vs with
          | nil => intro o w; rfl
          | cons v r ih => intro o w; show ((w.setCell _ v).setCells g (o + 1) r).tape = _; rw [ih]; rfl
        exact this _ _ _
      · have : ∀ (vs : List Value) (o : Nat) (w : World), (w.setCells g o vs).output = w.output := by
          intro vs; induction vs with
          | nil => intro o w; rfl
          | cons v r ih => intro o w; show ((w.setCell _ v).setCells g (o + 1) r).output = _; rw [ih]; rfl
        exact this _ _ _
      · have : ∀ (vs : List Value) (o : Nat) (w : World), (w.setCells g o vs).heap.size = w.heap.size := by
          intro vs; induction vs with
          | nil => intro o w; rfl
          | cons v r ih => intro o w; show ((w.setCell _ v).setCells g (o + 1) r).heap.size = _; rw [ih]; simp [World.setCell]
        rw [this]; exact Nat.le_refl _
  · have holds : ∀ j u, (xs.map (Value.int .u8))[j]? = some u → w.cell? ((⟨g, 0, none⟩ : Addr).add j) = some u := by
      intro j v hv
      rw [Addr.add_mid, Nat.zero_add]
      have hj : j < xs.length := by
        rcases Nat.lt_or_ge j xs.length with h | h
        · exact h
        · rw [List.getElem?_eq_none (by simpa using h)] at hv; cases hv
      rw [hc j (by omega)]
      simpa [List.getElem?_map, List.getElem?_eq_getElem hj] using hv
    have hr' := Lib.run_append_grow_string (P := P) w t u ty e i (.int .u8 0) ht hu hi hz ⟨g, 0, none⟩ n cap (xs.map (Value.int .u8)) (by rw [hsize]; simpa using hx) holds s (by omega) (by omega) (by rw [hby]; exact growslice_fits (by omega) (by omega))
    refine ⟨w.heap.size, _, _, hr', ?_, ⟨rfl, rfl, rfl, by simp, fun k hk _ => Below.heap_alloc w.drew _ k hk⟩⟩
    intro j hj
    rw [Nat.zero_add, cell_of_row _ w.heap.size j _ e (0, 0) (heap_alloc_new w.drew _)]
    rw [← Array.getElem?_toList]
    simp only [Array.toList_append, List.append_assoc]
    by_cases hjn : j < n
    · rw [List.getElem?_append_left (by simp; omega)]
      simp [List.getElem?_map, List.getD, List.getElem?_append_left (by omega : j < xs.length), List.getElem?_eq_getElem (by omega : j < xs.length)]
    · rw [List.getElem?_append_right (by simp; omega)]
      rw [List.getElem?_append_left (by simp [hsl]; omega)]
      have h2 := hget (j - n) (by omega)
      simp only [List.length_map, hx]
      rw [h2]
      congr 2
      simp [List.getD, List.getElem?_append_right (by omega : xs.length ≤ j), hx]

theorem bytesRow_size (s : ByteArray) (cap : Nat) (h : s.size ≤ cap) : (bytesRow s cap).size = cap := by
  have : s.data.size = s.size := rfl
  simp only [bytesRow, Array.size_append, Array.size_map, Array.size_replicate, this]
  omega

theorem nums_get (s : ByteArray) (j : Nat) (h : j < s.size) (h2 : j < (nums s).length) : (nums s)[j] = ((s.data[j]'h).toNat : Int) := by
  simp [nums]

set_option maxRecDepth 100000 in
set_option maxHeartbeats 2000000 in
theorem joined_any (a c : ByteArray) (w : World) (ha : a.size ≤ 10000000000000) (hc : c.size ≤ 10000000000000) :
    Calls Try.prog 85 #[.string a, .string c] w fun r w' => r = .returned (.string (a ++ c)) ∧ Below w.heap.size w w' := by
  obtain ⟨i0, hi, hz0, hz1, hz2⟩ := info_parts info5
  have hcv := run_bytes_of_string (P := Try.prog) w 9 86 5 a Try.underlying9 Try.underlying86 Try.underlying5
  have hge := grownCap_ge w a.size 0 5
  generalize grownCap w a.size 0 5 = cap at *
  have hbs := bytesRow_size a cap hge
  have hA : (w.drew.alloc (.cells (bytesRow a cap) 5 ((bytesRow a cap).size, (bytesRow a cap).size + 1))).heap[w.heap.size]? = some (.cells (bytesRow a cap) 5 ((bytesRow a cap).size, (bytesRow a cap).size + 1)) := heap_alloc_new w.drew _
  have hB : Below w.heap.size w (w.drew.alloc (.cells (bytesRow a cap) 5 ((bytesRow a cap).size, (bytesRow a cap).size + 1))) := (Below.refl _ _).drew.alloc (Nat.le_refl _) _
  generalize w.drew.alloc (.cells (bytesRow a cap) 5 ((bytesRow a cap).size, (bytesRow a cap).size + 1)) = w1 at *
  have hcell : ∀ j, w1.cell? ⟨w.heap.size, j, none⟩ = (bytesRow a cap)[j]? := fun j => cell_of_row w1 w.heap.size j _ _ _ hA
  obtain ⟨g', cap', w2, hr, hcells, hg⟩ := append_bytes (P := Try.prog) w1 86 9 86 5 i0 Try.underlying86 Try.underlying9 hi hz0 hz1 hz2 w.heap.size a.size cap (nums a) (nums_length a)
    (fun j h => by rw [hcell, bytesRow_at a cap j h, nums_get a j h]) (fun j h => ⟨by rw [hcell, Array.getElem?_eq_getElem (by omega)]; rfl, by simp [World.frozen?, hA, hbs]; omega⟩) c (by omega)
  have hcv2 := run_convert_bytes_arg (P := Try.prog) w2 86 5 Try.underlying86 Try.underlying5 g' 0 (a.size + c.size) cap' (nums a ++ nums c) (by simp [nums_length]) hcells 9 Try.underlying9
  have hstr : strOfNums (nums a ++ nums c) = a ++ c := by rw [← strOfNums_append, strOfNums_nums, strOfNums_nums]
  rw [hstr] at hcv2
  have hfin : Below w.heap.size w w2 := hB.grown hg hB.size (fun k e => by simp at e; omega)
  clear hcells hg hcell hA hbs
  go_enter Try.func85, Try.ntmps85
  go_wp2_with (at_builtin; refine wpList_plain rfl fun K hK => wp_append_str _ _ _ 86 9 rfl _ c rfl rfl _ w2 hr (hK _ _ ?_))
  go_ret
  exact ⟨rfl, hfin⟩
end Go.Proofs.Ytlafkpaljibonaa

namespace Go.Proofs.Ytlafkpaljibonaa
open Go.RowKit

def PM.endKey (m : PM) (k : Nat) (i st : Int) : PM := (m.sendB k (encB 3 i (strOfNums [st]))).drop k i

section
variable {o : Nat → Tag} {q : Nat} {w : World} {b : Nat} {m : PM} {sv : Nat → Value} {rv : Value}

set_option maxRecDepth 100000 in
set_option maxHeartbeats 2000000 in
theorem end_any (h : FMem o q w b m sv rv) (hq : q ≠ 0) (k : Nat) (hk : k < 4) (i st : Int) (h0 : 0 ≤ st) (h1 : st ≤ 255) (hs : (m.con k).sent.length ≤ 1000000000000) (hmax : m.req.length ≤ 1000000000000) :
    Calls Try.prog 102 #[.pointer (some ⟨b, 0, none⟩), .agg #[.int .i64 k, .int .i64 i], .int .i64 st] w fun r w' => r = .returned (.tuple #[]) ∧ ∃ o' sv' rv', FMem o' q w' b (m.endKey k i st) sv' rv' ∧ Fr q o w o' w' := by
  have hcv := conv_lit (w.alloc (.cells #[.int .i64 k, .int .i64 i] 109)) (w.heap.size + 1) (by simp) 1 [st] #[.int .u8 st] rfl rfl (by omega)
  have x0 := Blk.made w 109 [.int .i64 k, .int .i64 i]
  have hb0 : Below w.heap.size w (w.alloc (.cells #[.int .i64 k, .int .i64 i] 109)) := (Below.refl _ _).alloc (Nat.le_refl _) _
  have hb1 : Below w.heap.size w ((w.alloc (.cells #[.int .i64 k, .int .i64 i] 109)).alloc (.cells #[.int .u8 st] 5)) := hb0.alloc (by simp) _
  have hst : st % 256 = st := by omega
  unfold PM.endKey
  go_enter Try.func102, Try.ntmps102
  go_wp2_with fail
  have x1 : Blk ((w.alloc (.cells #[.int .i64 k, .int .i64 i] 109)).alloc (.cells #[.int .u8 st] 5)) w.heap.size 109 [.int .i64 k, .int .i64 i] := x0.below ((Below.refl _ _).alloc (Nat.le_refl _) _)
  refine (send_any (h.below hb1) k hk 3 i (strOfNums [st]) hs).mono ?_
  rintro e w1 ⟨rfl, o1, sv1, hm1, fr1⟩
  have x2 : Blk w1 w.heap.size 109 [.int .i64 k, .int .i64 i] := x1.keep (fr1.block _ x1.lt (by rw [h.clean _ (Nat.le_refl _)]; exact fun e => hq e.symm))
  have frA := (Fr.of_below (q := q) h.clean hb1).trans fr1
  have y0 := x2.cell (k := 0) (u := .int .i64 k) rfl
  have y1 := x2.cell (k := 1) (u := .int .i64 i) rfl
  clear hcv x0 x1 x2 hb0 hb1 fr1
  go_wp2_with fail
  refine (drop_any hm1 k i hmax).mono ?_
  rintro e w2 ⟨rfl, o2, rv2, hm2, fr2⟩
  go_wp2
  exact bodyPost_end (v := .tuple #[]) (by simp [results, Try.results102, go_sem]) rfl ⟨rfl, o2, sv1, rv2, hm2, frA.trans fr2⟩

/-- A slot that works at nothing from now on. -/
def PSlot.becomes (s : PSlot) (st : Int) : PSlot := { s with st := st, since := 0, job := ⟨#[]⟩, conn := -1, id := 0 }
def PSlot.killed (s : PSlot) : PSlot := s.becomes 4
def PM.becomesAt (m : PM) (k : Nat) (st : Int) : PM := { m with slot := upd m.slot k ((m.slot k).becomes st) }
def PM.kill (m : PM) (k : Nat) : PM := m.becomesAt k 4
def PSlot.half (s : PSlot) (st : Int) : PSlot := { s with st := st, since := 0, job := ⟨#[]⟩ }

theorem fcells_half (m : PM) (sv : Nat → Value) (rv : Value) (k : Nat) (hk : k < 6) (st : Int) :
    (((fcells m sv rv).set (21 + k * 7) (.int .i64 st)).set (21 + k * 7 + 3) (.int .i64 0)).set (21 + k * 7 + 6) (.string ⟨#[]⟩) = fcells { m with slot := upd m.slot k ((m.slot k).half st) } sv rv := by
  rcases k with _ | _ | _ | _ | _ | _ | k <;> first | rfl | omega

theorem becomes_two (m : PM) (k : Nat) (st : Int) : { m with slot := upd (upd m.slot k ((m.slot k).half st)) k ((upd m.slot k ((m.slot k).half st)) k).forget } = m.becomesAt k st := by
  simp only [PM.becomesAt, upd_same, PM.mk.injEq, true_and]
  funext i
  simp only [upd]
  split <;> rfl

set_option maxRecDepth 100000 in
set_option maxHeartbeats 2000000 in
theorem becomes_any (h : FMem o q w b m sv rv) (k : Nat) (hk : k < 6) (st : Int) :
    Calls Try.prog 68 #[.pointer (some ⟨b, 21 + k * 7, none⟩), .int .i64 st] w fun r w' => r = .returned (.tuple #[]) ∧ FMem o q w' b (m.becomesAt k st) sv rv ∧ Fr q o w o w' := by
  obtain ⟨c0, -, -, c3, -, -, c6⟩ := h.slotc hk
  have fz := h.frozen
  have hoth : ∀ x, x ≠ b → ((((w.setCell ⟨b, 21 + k * 7, none⟩ (.int .i64 st)).setCell ⟨b, 21 + k * 7 + 3, none⟩ (.int .i64 0)).setCell ⟨b, 21 + k * 7 + 6, none⟩ (.string ⟨#[]⟩)).heap[x]?) = w.heap[x]? := by
    intro x hx
    repeat rw [Below.heap_setCell _ _ _ x (by simpa using hx)]
  have hbk := ((h.blk.set (21 + k * 7) (.int .i64 st)).set (21 + k * 7 + 3) (.int .i64 0)).set (21 + k * 7 + 6) (.string ⟨#[]⟩)
  rw [fcells_half m sv rv k hk] at hbk
  have hm1 := h.put hbk (by simp [World.setCell]) hoth (fun _ _ => rfl) rfl
  have fr1 := h.fr_put hm1 (by simp [World.setCell]) (by simp [World.setCell]) (by simp [World.setCell]) (by simp [World.setCell]) hoth
  rw [← becomes_two]
  clear hoth hbk
  go_enter Try.func68, Try.ntmps68
  go_wp2_with fail
  refine (forgetKey_any hm1 k hk).mono ?_
  rintro e w1 ⟨rfl, hm2, fr2⟩
  go_wp2
  exact bodyPost_end (v := .tuple #[]) (by simp [results, Try.results68, go_sem]) rfl ⟨rfl, hm2, fr1.trans fr2⟩

set_option maxRecDepth 100000 in
set_option maxHeartbeats 2000000 in
theorem kill_any (h : FMem o q w b m sv rv) (k : Nat) (hk : k < 6) :
    Calls Try.prog 67 #[.pointer (some ⟨b, 0, none⟩), .int .i64 k] w fun r w' => r = .returned (.tuple #[]) ∧ FMem o q w' b (m.kill k) sv rv ∧ Fr q o w o w' := by
  unfold PM.kill
  go_enter Try.func67, Try.ntmps67
  go_wp2_with fail
  refine (becomes_any h k hk 4).mono ?_
  rintro e w1 ⟨rfl, hm2, fr2⟩
  go_wp2
  exact bodyPost_end (v := .tuple #[]) (by simp [results, Try.results67, go_sem]) rfl ⟨rfl, hm2, fr2⟩

def PM.idleAt (m : PM) (k : Nat) : Nat → Bool
  | 0 => false
  | n + 1 => cond ((m.slot k).st == 2) true (m.idleAt (k + 1) n)
def PM.room (m : PM) : Bool := m.idleAt 0 6 || decide ((m.waits.length : Int) < m.set.bl)

theorem PM.idleAt_in (m : PM) : ∀ n k, m.idleAt k n = decide (0 < m.inTo 2 (k + n) - m.inTo 2 k)
  | 0, k => by simp [PM.idleAt]
  | n + 1, k => by
    have ih := PM.idleAt_in m n (k + 1)
    unfold PM.idleAt
    rw [ih, show k + 1 + n = k + (n + 1) from by omega]
    have e : m.inTo 2 (k + 1) = m.inTo 2 k + (if (m.slot k).st == 2 then 1 else 0) := rfl
    have hm : ∀ n, m.inTo 2 (k + 1) ≤ m.inTo 2 (k + 1 + n) := by
      intro n
      induction n with
      | zero => exact Int.le_refl _
      | succ n ih =>
        have e : m.inTo 2 (k + 1 + (n + 1)) = m.inTo 2 (k + 1 + n) + (if (m.slot (k + 1 + n)).st == 2 then 1 else 0) := rfl
        rw [e]
        split <;> omega
    have hm := hm n
    rw [show k + 1 + n = k + (n + 1) from by omega] at hm
    rw [e] at hm ⊢
    revert hm
    cases ((m.slot k).st == 2) <;> intro hm
    · simp only [Bool.false_eq_true, if_false, Int.add_zero, cond_false]
    · have e1 : (if true = true then (1 : Int) else 0) = 1 := rfl
      rw [e1] at hm
      symm
      rw [cond_true, decide_eq_true_eq]
      omega

set_option maxRecDepth 100000 in
set_option maxHeartbeats 2000000 in
theorem hasRoom_any (h : FMem o q w b m sv rv) (hmax : m.req.length ≤ 1000000000000) :
    Calls Try.prog 113 #[.pointer (some ⟨b, 0, none⟩)] w fun r w' => r = .returned (.bool m.room) ∧ Below w.heap.size w w' := by
  have kc : Hid (∀ w', FMem o q w' b m sv rv → Calls Try.prog 89 #[.pointer (some ⟨b, 0, none⟩), .int .i64 2] w' fun r w'' => r = .returned (.int .i64 (m.inTo 2 6)) ∧ Below w'.heap.size w' w'') := fun w' h' => inState_any h' 2
  have kb : Hid (∀ w', FMem o q w' b m sv rv → Calls Try.prog 31 #[.pointer (some ⟨b, 0, none⟩)] w' fun r w'' => ∃ v, r = .returned v ∧ w''.ownsRow w'.heap.size 109 2 v m.waits.length (keyCells m.waits) ∧ Below w'.heap.size w' w'') := fun w' h' => backlog_any h' hmax
  have HI : Hid (m.idleAt 0 6 = decide (0 < m.inTo 2 6)) := by show _ = _; rw [PM.idleAt_in m 6 0]; simp [PM.inTo]
  unfold PM.room
  rw [HI.out]
  clear HI
  generalize m.inTo 2 6 = u at *
  by_cases hu : 0 < u
  · go_enter Try.func113, Try.ntmps113
    go_wp2_with fail
    refine (kc.out _ h).mono ?_
    rintro e w1 ⟨rfl, hb1⟩
    have hm1 := h.below hb1
    go_wp2_with fail
    refine (kb.out _ hm1).mono ?_
    rintro e w2 ⟨v, rfl, own, hb2⟩
    obtain ⟨av, cv, hv, hln, -⟩ := own_slice own
    subst hv
    go_wp2
    go_ret
    exact ⟨by simp [hu], hb1.trans (hb2.mono hb1.size)⟩
  · go_enter Try.func113, Try.ntmps113
    go_wp2_with fail
    refine (kc.out _ h).mono ?_
    rintro e w1 ⟨rfl, hb1⟩
    have hm1 := h.below hb1
    go_wp2_with fail
    refine (kb.out _ hm1).mono ?_
    rintro e w2 ⟨v, rfl, own, hb2⟩
    obtain ⟨av, cv, hv, hln, -⟩ := own_slice own
    subst hv
    have c6 := (hm1.below hb2).blc
    go_wp2
    go_ret
    exact ⟨by simp, hb1.trans (hb2.mono hb1.size)⟩
end
end Go.Proofs.Ytlafkpaljibonaa

namespace Go.Proofs.Ytlafkpaljibonaa
open Go.RowKit

section
variable {P : Program} {ops : Array Oper} {Q : Exit → Act → World → Prop} {md : Region.Mode} {S : World → Prop}
/-- Two operations may come up now: each order is walked. -/
theorem two_at {i j : Nat} {oi oj : Oper} {tl tj : List Oper} {fuel : Nat} {listed : Array Bool} {a : Act} {w : World} (hi : ops.toList.drop i = oi :: tl) (hj : ops.toList.drop j = oj :: tj)
    (hr : Region.ready md ops listed = [i, j]) (hwi : Region.wanted oi (yielded ops a.tmps) = true) (hwj : Region.wanted oj (yielded ops a.tmps) = true)
    (h1 : ∀ K' : Act → World → Prop, Shut (∀ a w, S w → wpAnyH P md ops Q S fuel (listed.setIfInBounds i true) a w → K' a w) → Oper.wp P oi a w K' Q)
    (h2 : ∀ K' : Act → World → Prop, Shut (∀ a w, S w → wpAnyH P md ops Q S fuel (listed.setIfInBounds j true) a w → K' a w) → Oper.wp P oj a w K' Q) :
    wpAnyH P md ops Q S (fuel + 1) listed a w := by
  refine wpAnyH_ready hr (by simp) (AllReadyH.cons (at_of_drop hi) (fun K' hK => ?_) (AllReadyH.cons (at_of_drop hj) (fun K' hK => ?_) AllReadyH.nil))
  · rw [if_pos hwi]
    exact h1 K' (fun a w hS hW => hK.out a w hS (fun _ => hW))
  · rw [if_pos hwj]
    exact h2 K' (fun a w hS hW => hK.out a w hS (fun _ => hW))
end

section
variable {o : Nat → Tag} {q : Nat} {w : World} {b : Nat} {m : PM} {sv : Nat → Value} {rv : Value}

/-- One request more stands in the list. -/
theorem FMem.pushReq {w1 : World} (h : FMem o q w b m sv rv) (v : Value) (l : List Req) (own : w1.ownsRow 0 111 4 v l.length (reqCells l))
    (hg : w.grownBy w1 rv.ownBlock) (hat : rv.ownBlock = v.ownBlock ∨ v.ownBlock = some w.heap.size) :
    ∃ o', FMem o' q (w1.setCell ⟨b, 20, none⟩ v) b { m with req := l } sv v ∧ Fr q o w o' (w1.setCell ⟨b, 20, none⟩ v) := by
  have hbl := h.blk.lt
  have hlt := own.lt
  have hst := h.reqs.2
  let o' : Nat → Tag := fun g => if v.ownBlock = some g then (q, 6) else o g
  have oold : ∀ g, g < w.heap.size → o' g = o g := by
    intro g hgl
    by_cases e : v.ownBlock = some g
    · simp only [o', if_pos e]
      rcases hat with h1 | h1
      · rw [← h1] at e; exact (hst g e).symm
      · rw [h1] at e; simp at e; omega
    · simp only [o', if_neg e]
  have hsz : (w1.setCell ⟨b, 20, none⟩ v).heap.size = w1.heap.size := by simp [World.setCell]
  have hcl : Clean o' (w1.setCell ⟨b, 20, none⟩ v) := by
    intro g hgl
    rw [hsz] at hgl
    have e : ¬ v.ownBlock = some g := by intro e; have := (hlt g e).2; omega
    simp only [o', if_neg e]
    exact h.clean g (Nat.le_trans hg.size hgl)
  have hnb : some b ≠ rv.ownBlock := by intro e; have := hst b e.symm; rw [h.tag] at this; simp at this
  have hoth : ∀ g, g < w.heap.size → g ≠ b → some g ≠ rv.ownBlock → (w1.setCell ⟨b, 20, none⟩ v).heap[g]? = w.heap[g]? := by
    intro g hgl hne hn2
    rw [Below.heap_setCell _ _ _ g hne]; exact hg.block g hgl hn2
  have hvb : ∀ g, v.ownBlock = some g → g ≠ b := by
    intro g e
    rcases hat with h1 | h1
    · rw [← h1] at e; rintro rfl; exact hnb e.symm
    · rw [h1] at e; simp at e; omega
  refine ⟨o', ⟨hcl, (oold b hbl).trans h.tag, ?_, fun j hj => ?_, ?_, h.few⟩, ⟨hg.os, hg.tape, hg.output, by rw [hsz]; exact hg.size, hcl, oold, fun g hgl hq => hoth g hgl ?_ ?_⟩⟩
  · have b1 : Blk w1 b _ _ := h.blk.keep (hg.block b hbl hnb)
    exact b1.set 20 v
  · refine (h.sent j hj).keep oold fun g hgl ht => hoth g hgl ?_ ?_
    · rintro rfl; rw [h.tag] at ht; simp at ht; omega
    · intro e2; have := hst g e2.symm; rw [ht] at this; simp at this; omega
  · exact ⟨own_keepAt own (fun g hgv => Below.heap_setCell _ _ _ g (hvb g hgv)) (Nat.le_refl _), fun g hgv => by simp only [o', if_pos hgv]⟩
  · rintro rfl; rw [h.tag] at hq; exact hq rfl
  · intro e2; have := hst g e2.symm; rw [this] at hq; exact hq rfl

def newReq (c i : Int) : Req := ⟨c, i, 0, ⟨#[]⟩⟩
def PM.begin_ (m : PM) (k : Nat) (i : Int) (role : ByteArray) : PM :=
  cond (role.toList == [1]) (cond (decide ((m.keysOf k).length ≥ 4)) (m.endKey k i 2) { m with req := m.req ++ [newReq k i] }) (m.endKey k i 3)

set_option maxRecDepth 100000 in
set_option maxHeartbeats 4000000 in
theorem begin_any (h : FMem o q w b m sv rv) (hq : q ≠ 0) (k : Nat) (hk : k < 4) (i : Int) (role : ByteArray) (hs : (m.con k).sent.length ≤ 1000000000000) (hmax : m.req.length ≤ 100000000000) :
    Calls Try.prog 105 #[.pointer (some ⟨b, 0, none⟩), .agg #[.int .i64 k, .int .i64 i], .string role] w fun r w' => r = .returned (.tuple #[]) ∧ ∃ o' sv' rv', FMem o' q w' b (m.begin_ k i role) sv' rv' ∧ Fr q o w o' w' := by
  obtain ⟨i0, hi, hz0, hz1, hz2⟩ := info_parts infoReq
  unfold PM.begin_
  have x0 := Blk.made w 109 [.int .i64 k, .int .i64 i]
  have hb0 : Below w.heap.size w (w.alloc (.cells #[.int .i64 k, .int .i64 i] 109)) := (Below.refl _ _).alloc (Nat.le_refl _) _
  have hA := h.below hb0
  have frA := Fr.of_below (q := q) h.clean hb0
  have hkey : o w.heap.size = (0, 0) := h.clean _ (Nat.le_refl _)
  cases hrole : (role.toList == [1])
  rotate_left
  · simp only [cond_true]
    have kk : Hid (∀ w', FMem o q w' b m sv rv → Calls Try.prog 99 #[.pointer (some ⟨b, 0, none⟩), .int .i64 k] w' fun r w'' => ∃ v, r = .returned v ∧ w''.ownsRow w'.heap.size 109 2 v (m.keysOf k).length (keyCells (m.keysOf k)) ∧ Below w'.heap.size w' w'') := fun w' h' => keysOf_any h' k (by omega)
    generalize hL : m.keysOf k = L at *
    clear hL
    by_cases h4 : L.length ≥ 4
    · simp only [h4, decide_true, cond_true]
      go_enter Try.func105, Try.ntmps105
      go_wp2_with fail
      refine (kk.out _ hA).mono ?_
      rintro e w1 ⟨v, rfl, own, hb1⟩
      obtain ⟨av, cv, hv, hln, -⟩ := own_slice own
      subst hv
      have hm1 := hA.below hb1
      have x1 := x0.below hb1
      have y0 := x1.cell (k := 0) (u := .int .i64 k) rfl
      have y1 := x1.cell (k := 1) (u := .int .i64 i) rfl
      have fr1 := frA.below hb1
      clear own kk
      go_wp2_with fail
      refine (end_any hm1 hq k hk i 2 (by omega) (by omega) hs (by omega)).mono ?_
      rintro e w2 ⟨rfl, o2, sv2, rv2, hm2, fr2⟩
      go_wp2
      exact bodyPost_ret (v := .tuple #[]) (by simp [results, Try.results105, go_sem]) rfl ⟨rfl, o2, sv2, rv2, hm2, fr1.trans fr2⟩
    · simp only [h4, decide_false, cond_false]
      go_enter Try.func105, Try.ntmps105
      go_wp2_with fail
      refine (kk.out _ hA).mono ?_
      rintro e w1 ⟨v, rfl, own, hb1⟩
      obtain ⟨av, cv, hv, hln, -⟩ := own_slice own
      subst hv
      have hm1 := hA.below hb1
      have x1 := x0.below hb1
      have y0 := x1.cell (k := 0) (u := .int .i64 k) rfl
      have y1 := x1.cell (k := 1) (u := .int .i64 i) rfl
      have fr1 := frA.below hb1
      have hlt1 := x1.lt
      clear own kk hA frA hb0 x0 hb1
      go_wp2_with fail
      have hmd := hm1.below (Below.refl _ _).drew
      have frd := fr1.below (Below.refl _ _).drew
      have y2 := hmd.reqv
      have hform := hmd.reqs.form
      obtain ⟨ar, cr, hrv, -, -⟩ := hform
      have hrown := hmd.reqs.1
      have hrlt := hrown.lt
      subst hrv
      have hbn : b ≠ w.heap.size := by have := h.blk.lt; omega
      refine wp_region_noPanic ?_
      refine wp_region_held_drew (S := fun w' => w'.cell? ⟨w.heap.size, 0, none⟩ = some (.int .i64 k) ∧ w'.cell? ⟨w.heap.size, 1, none⟩ = some (.int .i64 i)) (by kernel_rfl) ⟨y0, y1⟩ (fun hHeld => ?_)
      refine take_at (i := 0) (v := ?_) rfl (by kernel_rfl) (by kernel_rfl) (by kernel_rfl) (fun _ _ _ h => h) (by rfl) ?_ (by assumption) ?_
      rotate_left
      · (intro wx hSw; obtain ⟨x0, x1⟩ := hSw; go_simp; with_reducible rfl)
      simp only [Act.put, List.setIfInBounds_toArray, List.set_cons_zero, List.set_cons_succ]
      refine take_at (i := 1) (v := ?_) rfl (by kernel_rfl) (by kernel_rfl) (by kernel_rfl) (fun _ _ _ h => h) (by rfl) ?_ (by assumption) ?_
      rotate_left
      · (intro wx hSw; obtain ⟨x0, x1⟩ := hSw; go_simp; with_reducible rfl)
      simp only [Act.put, List.setIfInBounds_toArray, List.set_cons_zero, List.set_cons_succ]
      refine take_at (i := 2) (v := ?_) rfl (by kernel_rfl) (by kernel_rfl) (by kernel_rfl) (fun _ _ _ h => h) (by rfl) ?_ (by assumption) ?_
      rotate_left
      · (intro wx hSw; obtain ⟨x0, x1⟩ := hSw; go_simp; with_reducible rfl)
      simp only [Act.put, List.setIfInBounds_toArray, List.set_cons_zero, List.set_cons_succ]
      refine take_at (i := 3) (v := ?_) rfl (by kernel_rfl) (by kernel_rfl) (by kernel_rfl) (fun _ _ _ h => h) (by rfl) ?_ (by assumption) ?_
      rotate_left
      · (intro wx hSw; obtain ⟨x0, x1⟩ := hSw; go_simp; with_reducible rfl)
      simp only [Act.put, List.setIfInBounds_toArray, List.set_cons_zero, List.set_cons_succ]
      refine take_at (i := 5) (v := ?_) rfl (by kernel_rfl) (by kernel_rfl) (by kernel_rfl) (fun _ _ _ h => h) (by rfl) ?_ (by assumption) ?_
      rotate_left
      · (intro wx hSw; obtain ⟨x0, x1⟩ := hSw; go_simp; with_reducible rfl)
      simp only [Act.put, List.setIfInBounds_toArray, List.set_cons_zero, List.set_cons_succ]
      refine take_at (i := 6) (v := ?_) rfl (by kernel_rfl) (by kernel_rfl) (by kernel_rfl) (fun _ _ _ h => h) (by rfl) ?_ (by assumption) ?_
      rotate_left
      · (intro wx hSw; obtain ⟨x0, x1⟩ := hSw; go_simp; with_reducible rfl)
      simp only [Act.put, List.setIfInBounds_toArray, List.set_cons_zero, List.set_cons_succ]
      have xA := (x1.below (Below.refl _ _).drew).below ((Below.refl _ _).alloc (Nat.le_refl _) (.cells #[.int .i64 k, .int .i64 i, .int .i64 0, .string ⟨#[]⟩] 111))
      have hSA : (w1.drew.alloc (.cells #[.int .i64 k, .int .i64 i, .int .i64 0, .string ⟨#[]⟩] 111)).cell? ⟨w.heap.size, 0, none⟩ = some (.int .i64 k) ∧ (w1.drew.alloc (.cells #[.int .i64 k, .int .i64 i, .int .i64 0, .string ⟨#[]⟩] 111)).cell? ⟨w.heap.size, 1, none⟩ = some (.int .i64 i) := ⟨xA.cell rfl, xA.cell rfl⟩
      refine two_at (i := 4) (j := 7) rfl rfl (by kernel_rfl) (by rfl) (by rfl) (fun K hK => ?_) (fun K hK => ?_)
      · go_simp
        refine hK.out _ _ ⟨y0, y1⟩ ?_
        clear hK K
        try simp only [Act.put, List.setIfInBounds_toArray, List.set_cons_zero, List.set_cons_succ]
        refine only_at (i := 7) rfl (by kernel_rfl) (by rfl) (fun K hK => ?_)
        go_simp
        refine hK.out _ _ hSA ?_
        clear hK K
        refine only_at (i := 8) rfl (by kernel_rfl) (by rfl) (fun K hK => ?_)
        refine wp_append_lies _ _ _ 98 rfl 0 111 i0 (.agg #[.int .i64 0, .int .i64 0, .int .i64 0, .string ⟨#[]⟩]) 4 40 Try.underlying98 hi hz0 hz1 hz2 rfl (by omega) (.slice ar m.req.length cr) m.req.length (reqCells m.req) rfl (hrown.alloc _) ⟨w1.heap.size, 0, none⟩ 1 1 (reqCells [newReq k i]) rfl rfl ?_ (reqCells_one _) (by omega) (by unfold maxLen; omega) (by omega) (Nat.zero_le _) _ rfl ?_
        · exact news_req w1.drew _ rfl (newReq k i) _
        intro g3 c3 w3 own3 hg3 hat3 hlt3
        have hmA := hmd.alloc (.cells #[.int .i64 k, .int .i64 i, .int .i64 0, .string ⟨#[]⟩] 111)
        have frB : Fr q o w o (w1.drew.alloc (.cells #[.int .i64 k, .int .i64 i, .int .i64 0, .string ⟨#[]⟩] 111)) := frd.below ((Below.refl _ _).alloc (Nat.le_refl _) _)
        have own3' : w3.ownsRow 0 111 4 (.slice (some ⟨g3, 0, none⟩) (m.req.length + 1) c3) (m.req ++ [newReq k i]).length (reqCells (m.req ++ [newReq k i])) := by
          rw [reqCells_append, List.length_append]; exact own3
        have hat3' : (Value.slice ar m.req.length cr).ownBlock = (Value.slice (some ⟨g3, 0, none⟩) (m.req.length + 1) c3).ownBlock ∨ (Value.slice (some ⟨g3, 0, none⟩) (m.req.length + 1) c3).ownBlock = some (w1.drew.alloc (.cells #[.int .i64 k, .int .i64 i, .int .i64 0, .string ⟨#[]⟩] 111)).heap.size := by
          rcases hat3 with e | e
          · exact .inl e
          · right; rw [e]; rfl
        obtain ⟨o4, hm4, fr4⟩ := hmA.pushReq _ _ own3' hg3 hat3'
        have hnr : some w.heap.size ≠ (Value.slice ar m.req.length cr).ownBlock := by
          intro e
          have := hmd.reqs.2 _ e.symm
          rw [hkey] at this
          exact hq (congrArg Prod.fst this).symm
        have x3 : Blk w3 w.heap.size 109 [.int .i64 k, .int .i64 i] := x1.keep ((hg3.block _ (by simp; omega) hnr).trans (Below.heap_alloc _ _ _ hlt1))
        have nb : some b ≠ (Value.slice ar m.req.length cr).ownBlock := by
          intro e
          have := hmd.reqs.2 _ e.symm
          rw [hmd.tag] at this
          simp at this
        have b3 : Blk w3 b _ _ := hmA.blk.keep (hg3.block b hmA.blk.lt nb)
        have z2 := b3.cell (k := 20) (u := .slice ar m.req.length cr) rfl
        have fz := b3.frozen
        have hS3 : w3.cell? ⟨w.heap.size, 0, none⟩ = some (.int .i64 k) ∧ w3.cell? ⟨w.heap.size, 1, none⟩ = some (.int .i64 i) := ⟨x3.cell rfl, x3.cell rfl⟩
        refine hK.out _ _ hS3 ?_
        clear hK K
        try simp only [Act.put, List.setIfInBounds_toArray, List.set_cons_zero, List.set_cons_succ]
        refine take_at (i := 9) (v := ?_) rfl (by kernel_rfl) (by kernel_rfl) (by kernel_rfl) (fun _ _ _ h => h) (by rfl) ?_ (by assumption) ?_
        rotate_left
        · (intro wx hSw; obtain ⟨x0, x1⟩ := hSw; go_simp; with_reducible rfl)
        simp only [Act.put, List.setIfInBounds_toArray, List.set_cons_zero, List.set_cons_succ]
        refine take_at (i := 10) (v := ?_) rfl (by kernel_rfl) (by kernel_rfl) (by kernel_rfl) (fun _ _ _ h => h) (by rfl) ?_ (by assumption) ?_
        rotate_left
        · (intro wx hSw; obtain ⟨x0, x1⟩ := hSw; go_simp; with_reducible rfl)
        simp only [Act.put, List.setIfInBounds_toArray, List.set_cons_zero, List.set_cons_succ]
        refine only_at (i := 11) rfl (by kernel_rfl) (by rfl) (fun K hK => ?_)
        go_simp
        have x4 := x3.keep (w' := w3.setCell ⟨b, 20, none⟩ (.slice (some ⟨g3, 0, none⟩) (m.req.length + 1) c3)) (Below.heap_setCell _ _ _ _ (by simpa using hbn.symm))
        refine hK.out _ _ ⟨x4.cell rfl, x4.cell rfl⟩ ?_
        clear hK K
        refine wpAnyH_done (by kernel_rfl) ?_ _
        refine NoPanic.normal ?_
        go_wp2
        exact bodyPost_end (v := .tuple #[]) (by simp [results, Try.results105, go_sem]) rfl ⟨rfl, o4, sv, _, hm4, frB.trans fr4⟩
      · go_simp
        refine hK.out _ _ hSA ?_
        clear hK K
        try simp only [Act.put, List.setIfInBounds_toArray, List.set_cons_zero, List.set_cons_succ]
        have y2a := fun ob => (hm1.alloc ob).reqv
        refine only_at (i := 4) rfl (by kernel_rfl) (by rfl) (fun K hK => ?_)
        go_simp
        refine hK.out _ _ hSA ?_
        clear hK K
        refine only_at (i := 8) rfl (by kernel_rfl) (by rfl) (fun K hK => ?_)
        refine wp_append_lies _ _ _ 98 rfl 0 111 i0 (.agg #[.int .i64 0, .int .i64 0, .int .i64 0, .string ⟨#[]⟩]) 4 40 Try.underlying98 hi hz0 hz1 hz2 rfl (by omega) (.slice ar m.req.length cr) m.req.length (reqCells m.req) rfl (hrown.alloc _) ⟨w1.heap.size, 0, none⟩ 1 1 (reqCells [newReq k i]) rfl rfl ?_ (reqCells_one _) (by omega) (by unfold maxLen; omega) (by omega) (Nat.zero_le _) _ rfl ?_
        · exact news_req w1.drew _ rfl (newReq k i) _
        intro g3 c3 w3 own3 hg3 hat3 hlt3
        have hmA := hmd.alloc (.cells #[.int .i64 k, .int .i64 i, .int .i64 0, .string ⟨#[]⟩] 111)
        have frB : Fr q o w o (w1.drew.alloc (.cells #[.int .i64 k, .int .i64 i, .int .i64 0, .string ⟨#[]⟩] 111)) := frd.below ((Below.refl _ _).alloc (Nat.le_refl _) _)
        have own3' : w3.ownsRow 0 111 4 (.slice (some ⟨g3, 0, none⟩) (m.req.length + 1) c3) (m.req ++ [newReq k i]).length (reqCells (m.req ++ [newReq k i])) := by
          rw [reqCells_append, List.length_append]; exact own3
        have hat3' : (Value.slice ar m.req.length cr).ownBlock = (Value.slice (some ⟨g3, 0, none⟩) (m.req.length + 1) c3).ownBlock ∨ (Value.slice (some ⟨g3, 0, none⟩) (m.req.length + 1) c3).ownBlock = some (w1.drew.alloc (.cells #[.int .i64 k, .int .i64 i, .int .i64 0, .string ⟨#[]⟩] 111)).heap.size := by
          rcases hat3 with e | e
          · exact .inl e
          · right; rw [e]; rfl
        obtain ⟨o4, hm4, fr4⟩ := hmA.pushReq _ _ own3' hg3 hat3'
        have hnr : some w.heap.size ≠ (Value.slice ar m.req.length cr).ownBlock := by
          intro e
          have := hmd.reqs.2 _ e.symm
          rw [hkey] at this
          exact hq (congrArg Prod.fst this).symm
        have x3 : Blk w3 w.heap.size 109 [.int .i64 k, .int .i64 i] := x1.keep ((hg3.block _ (by simp; omega) hnr).trans (Below.heap_alloc _ _ _ hlt1))
        have nb : some b ≠ (Value.slice ar m.req.length cr).ownBlock := by
          intro e
          have := hmd.reqs.2 _ e.symm
          rw [hmd.tag] at this
          simp at this
        have b3 : Blk w3 b _ _ := hmA.blk.keep (hg3.block b hmA.blk.lt nb)
        have z2 := b3.cell (k := 20) (u := .slice ar m.req.length cr) rfl
        have fz := b3.frozen
        have hS3 : w3.cell? ⟨w.heap.size, 0, none⟩ = some (.int .i64 k) ∧ w3.cell? ⟨w.heap.size, 1, none⟩ = some (.int .i64 i) := ⟨x3.cell rfl, x3.cell rfl⟩
        refine hK.out _ _ hS3 ?_
        clear hK K
        try simp only [Act.put, List.setIfInBounds_toArray, List.set_cons_zero, List.set_cons_succ]
        refine take_at (i := 9) (v := ?_) rfl (by kernel_rfl) (by kernel_rfl) (by kernel_rfl) (fun _ _ _ h => h) (by rfl) ?_ (by assumption) ?_
        rotate_left
        · (intro wx hSw; obtain ⟨x0, x1⟩ := hSw; go_simp; with_reducible rfl)
        simp only [Act.put, List.setIfInBounds_toArray, List.set_cons_zero, List.set_cons_succ]
        refine take_at (i := 10) (v := ?_) rfl (by kernel_rfl) (by kernel_rfl) (by kernel_rfl) (fun _ _ _ h => h) (by rfl) ?_ (by assumption) ?_
        rotate_left
        · (intro wx hSw; obtain ⟨x0, x1⟩ := hSw; go_simp; with_reducible rfl)
        simp only [Act.put, List.setIfInBounds_toArray, List.set_cons_zero, List.set_cons_succ]
        refine only_at (i := 11) rfl (by kernel_rfl) (by rfl) (fun K hK => ?_)
        go_simp
        have x4 := x3.keep (w' := w3.setCell ⟨b, 20, none⟩ (.slice (some ⟨g3, 0, none⟩) (m.req.length + 1) c3)) (Below.heap_setCell _ _ _ _ (by simpa using hbn.symm))
        refine hK.out _ _ ⟨x4.cell rfl, x4.cell rfl⟩ ?_
        clear hK K
        refine wpAnyH_done (by kernel_rfl) ?_ _
        refine NoPanic.normal ?_
        go_wp2
        exact bodyPost_end (v := .tuple #[]) (by simp [results, Try.results105, go_sem]) rfl ⟨rfl, o4, sv, _, hm4, frB.trans fr4⟩
  · simp only [cond_false]
    have y0 := x0.cell (k := 0) (u := .int .i64 k) rfl
    have y1 := x0.cell (k := 1) (u := .int .i64 i) rfl
    go_enter Try.func105, Try.ntmps105
    go_wp2_with fail
    refine (end_any hA hq k hk i 3 (by omega) (by omega) hs (by omega)).mono ?_
    rintro e w2 ⟨rfl, o2, sv2, rv2, hm2, fr2⟩
    go_wp2
    exact bodyPost_ret (v := .tuple #[]) (by simp [results, Try.results105, go_sem]) rfl ⟨rfl, o2, sv2, rv2, hm2, frA.trans fr2⟩

end
end Go.Proofs.Ytlafkpaljibonaa
