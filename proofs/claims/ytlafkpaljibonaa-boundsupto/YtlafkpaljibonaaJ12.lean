import Derived.Test.YtlafkpaljibonaaJ10
import Derived.Test.YtlafkpaljibonaaJ11
import Derived.Laws.AppendOwnNone
namespace Go.Proofs.Ytlafkpaljibonaa
open Go.RowKit

/-- append of one row of the call's own onto another. -/
theorem wpList_append_rows {P : Program} {w : World} {ops : Array Oper} {rest : List Oper} {o : Oper} {a : Act} {Q : Exit → Act → World → Prop} (hgd : o.guard = none) (s x : Operand) (t : TypeId)
    (ho : o.op = .call { callee := .builtin .append, args := #[s, x], argTypes := #[t, t] })
    (base : Nat) (e : TypeId) (i : TypeInfo) (z : Value) (size bytes : Nat) (ht : P.underlying t = some (.slice e)) (hi : P.info? e = some i) (hz : i.zero = some z)
    (hsize : i.size = size) (hby : i.bytes = bytes) (hzs : z.cells.size = size) (hsz : 0 < size)
    (v : Value) (n : Nat) (xs : List Value) (hs : a.eval s = v) (hown : w.ownsRow base e size v n xs)
    (base' : Nat) (xv : Value) (m : Nat) (news : List Value) (hx : a.eval x = xv) (hsrc : w.ownsRow base' e size xv m news) (h1 : ∀ u ∈ news, u.oneCell' = true)
    (h63 : n + m ≤ maxLen) (hbytes : (n + m) * bytes ≤ 140737488355328) (hbase : base ≤ w.heap.size)
    (h : ∀ v' w', w'.ownsRow base e size v' (n + m) (xs ++ news) → w.grownBy w' v.ownBlock → wpList P ops Q rest (a.put o.dst v') w') : wpList P ops Q (o :: rest) a w := by
  rcases hsrc.2 with ⟨hv, hm⟩ | ⟨g, cap, cur, hv, -, -⟩
  · subst hm
    have hl := hsrc.1
    have hn : news = [] := List.length_eq_zero_iff.1 (by simpa using hl)
    subst hn
    subst hv
    exact wpList_append_own_none hgd s x t ho base e i size ht hi v n xs hs hown hx (h v w (by simpa using hown) (World.grownBy.refl w _))
  · subst hv
    exact wpList_append_own (w := w) hgd s x t ho base e i z size bytes ht hi hz hsize hby hzs hsz v n xs hs hown ⟨g, 0, none⟩ m cap news hx hsrc.1 (hsrc.cells rfl) h1 h63 hbytes hbase fun v' w' h2 h3 _ => h v' w' h2 h3

def mostI (a b : Int) : Int := if a > b then a else b

set_option maxRecDepth 100000 in
theorem most_any (a b : Int) (w : World) :
    Calls Try.prog 38 #[.int .i64 a, .int .i64 b] w fun r w' => r = .returned (.int .i64 (mostI a b)) ∧ w' = w := by
  by_cases h : a > b
  · have e : mostI a b = a := if_pos h
    rw [e]
    go_enter Try.func38, Try.ntmps38
    go_wp2
    go_ret
    exact ⟨rfl, rfl⟩
  · have e : mostI a b = b := if_neg h
    rw [e]
    go_enter Try.func38, Try.ntmps38
    go_wp2
    go_ret
    exact ⟨rfl, rfl⟩

theorem lookC_get (m : PM) (s : Nat) (hs : s < 6) (bv : Value) (t : Int) (r : Bool) : (lookC m 4 6 bv t r)[8 + s * 6]? = some (.int .i64 (m.slot s).st) ∧ (lookC m 4 6 bv t r)[8 + s * 6 + 1]? = some (.bool (m.slot s).old) ∧ (lookC m 4 6 bv t r)[8 + s * 6 + 2]? = some (.int .i64 (m.slot s).served) ∧ (lookC m 4 6 bv t r)[8 + s * 6 + 3]? = some (.int .i64 (m.slot s).since) ∧ (lookC m 4 6 bv t r)[8 + s * 6 + 4]? = some (.int .i64 (m.slot s).conn) ∧ (lookC m 4 6 bv t r)[8 + s * 6 + 5]? = some (.int .i64 (m.slot s).id) := by
  rcases s with _ | _ | _ | _ | _ | _ | s <;> first | exact ⟨rfl, rfl, rfl, rfl, rfl, rfl⟩ | omega
theorem lookC_op (m : PM) (k : Nat) (hk : k < 4) (bv : Value) (t : Int) (r : Bool) : (lookC m 4 6 bv t r)[k]? = some (.bool (m.con k).op) := by
  rcases k with _ | _ | _ | _ | k <;> first | rfl | omega

set_option maxRecDepth 100000 in
set_option maxHeartbeats 2000000 in
theorem live_any {w : World} (C : List Value) (m : PM) (hC : ∀ s, s < 6 → C[8 + s * 6]? = some (.int .i64 (m.slot s).st)) :
    Calls Try.prog 37 #[.agg C.toArray] w fun r w' => r = .returned (.int .i64 (m.usedTo 6)) ∧ Below w.heap.size w w' := by
  have x0 := Blk.made w 63 C
  have hb0 : Below w.heap.size w (w.alloc (.cells C.toArray 63)) := (Below.refl _ _).alloc (Nat.le_refl _) _
  go_enter Try.func37, Try.ntmps37
  go_wp2
  go_loopw [3, 4] (fun n i w' => ∃ k : Nat, k ≤ 6 ∧ i = .int .i64 k ∧ n = .int .i64 (m.usedTo k) ∧ w' = w.alloc (.cells C.toArray 63)) (fun _ i _ => 6 - (intOf i).toNat)
  case atStart => exact ⟨0, by omega, rfl, rfl, rfl⟩
  case round =>
    obtain ⟨k, hk, rfl, rfl, rfl⟩ := hrel
    by_cases hlt : k < 6
    · have hkI : (k : Int) < 6 := by omega
      have c0 := x0.cell (hC k hlt)
      have HU : Hid (m.usedTo (k + 1) = m.usedTo k + (if (m.slot k).st == 0 then 0 else 1)) := rfl
      have hbd := PM.usedTo_bd m k
      generalize C.toArray = CA at *
      generalize m.usedTo k = u at *
      by_cases h0 : (m.slot k).st = 0
      · rw [h0] at c0
        go_wp2
        exact ⟨⟨k + 1, by omega, by go_num, by rw [HU.out, h0]; simp⟩, by simp [intOf]; omega⟩
      · have h0' : ((m.slot k).st == 0) = false := by simpa using h0
        go_wp2
        exact ⟨⟨k + 1, by omega, by go_num, by rw [HU.out, h0']; simp⟩, by simp [intOf]; omega⟩
    · have hk6 : k = 6 := by omega
      subst hk6
      generalize C.toArray = CA at *
      go_wp2
      go_ret
      exact ⟨rfl, hb0⟩

set_option maxRecDepth 100000 in
set_option maxHeartbeats 4000000 in
theorem once_any {w : World} {B : Nat} {av : Option Addr} {cv : Nat} {m : PM} {a : Bool} {R Q : Int} (h : m.Sure a R Q) (hW : m.waits.length ≤ 1000000000000) (own : w.ownsRow B 109 2 (.slice av m.waits.length cv) m.waits.length (keyCells m.waits)) :
    Calls Try.prog 39 #[.agg (lookC m 4 6 (.slice av m.waits.length cv) m.time true).toArray] w fun r w' => r = .returned (.bool true) ∧ Below w.heap.size w w' := by
  obtain ⟨i0, hi, hz0, hz1, hz2⟩ := info_parts infoKey
  have x0 := Blk.made w 63 (lookC m 4 6 (.slice av m.waits.length cv) m.time true)
  have hb0 : Below w.heap.size w (w.alloc (.cells (lookC m 4 6 (.slice av m.waits.length cv) m.time true).toArray 63)) := (Below.refl _ _).alloc (Nat.le_refl _) _
  have hG := fun s hs => lookC_get m s hs (.slice av m.waits.length cv) m.time true
  have hO := fun k hk => lookC_op m k hk (.slice av m.waits.length cv) m.time true
  have hB : (lookC m 4 6 (.slice av m.waits.length cv) m.time true)[50]? = some (.slice av m.waits.length cv) := rfl
  generalize lookC m 4 6 (.slice av m.waits.length cv) m.time true = C at *
  have hSh := h.law.shown_nodup
  have hOk := fun x hx => h.law.shown_ok (x := x) hx
  go_enter Try.func39, Try.ntmps39
  go_wp2
  go_loopw [3, 4] (fun v i w' => ∃ k : Nat, k ≤ 6 ∧ i = .int .i64 k ∧ w'.ownsRow (w.heap.size + 1) 109 2 v (m.sk k).length (keyCells (m.sk k)) ∧ Below (w.heap.size + 1) (w.alloc (.cells C.toArray 63)) w') (fun _ i _ => 6 - (intOf i).toNat)
  case atStart => exact ⟨0, by omega, rfl, World.ownsRow_nil _ _ _ _, Below.refl _ _⟩
  case round =>
    obtain ⟨k, hk, rfl, hown, bel⟩ := hrel
    have hsz : (w.alloc (.cells C.toArray 63)).heap.size = w.heap.size + 1 := by simp
    have xl := x0.keep (bel.block _ (by omega))
    have hbase := bel.size
    rw [hsz] at hbase
    by_cases hlt : k < 6
    · have hkI : (k : Int) < 6 := by omega
      obtain ⟨g0, g1, g2, g3, g4, g5⟩ := hG k hlt
      have c0 := xl.cell g0
      have c1 := xl.cell g1
      have c2 := xl.cell g2
      have c3 := xl.cell g3
      have c4 := xl.cell g4
      have c5 := xl.cell g5
      have c50 := xl.cell hB
      have hlb := xl.lt
      have hloc := h.law.loc k hlt
      have hcn := h.law.conn hlt
      have hbusy := h.law.busy (k := k) hlt
      have hcalm := h.calm.rest
      have hskl := sk_len m k
      have HS : Hid (m.sk (k + 1) = m.sk k ++ (if (m.slot k).conn < 0 then [] else [keyS (m.slot k)])) := rfl
      have hwl : m.waits.length = 0 ∨ (m.slot k).st ≠ 2 := by
        by_cases e : (m.slot k).st = 2
        · left; rw [hcalm ⟨k, hlt, e⟩]; rfl
        · exact .inr e
      clear hcalm hSh hOk hG hO hB x0 own hb0
      generalize C.toArray = CA at *
      generalize m.sk k = acc at *
      have fin : ∀ w2, Below wr.heap.size wr w2 → (m.slot k).conn < 0 → (∃ k_1 : Nat, k_1 ≤ 6 ∧ Value.int .i64 ((k : Int) + 1) = Value.int .i64 k_1 ∧ w2.ownsRow (w.heap.size + 1) 109 2 u3 (m.sk k_1).length (keyCells (m.sk k_1)) ∧ Below (w.heap.size + 1) (w.alloc (.cells CA 63)) w2) := by
        intro w2 hb2 hlt0
        refine ⟨k + 1, by omega, by go_num, ?_, bel.trans (hb2.mono hbase)⟩
        rw [HS.out, if_pos hlt0, List.append_nil]
        exact own_keepAt hown (fun g hg => hb2.block g (hown.lt g hg).2) (Nat.le_refl _)
      rcases hcn with hneg | ⟨hp0, hp4, -, -⟩
      · have hid := hloc.none hneg
        rw [hneg] at c4
        rw [hid] at c5
        by_cases e3 : (m.slot k).st = 3
        · rw [e3] at c0
          go_wp2
          exact ⟨fin _ ((Below.refl _ _).alloc (Nat.le_refl _) _) (by omega), by simp [intOf]; omega⟩
        · have hsn := (hloc.idle e3).1
          rw [hsn] at c3
          by_cases e2 : (m.slot k).st = 2
          · have ho := hloc.new e2
            have hw0 : m.waits.length = 0 := by rcases hwl with x | x; exact x; exact absurd e2 x
            rw [e2] at c0
            rw [ho] at c1
            rw [hw0] at c50
            go_wp2
            exact ⟨fin _ ((Below.refl _ _).alloc (Nat.le_refl _) _) (by omega), by simp [intOf]; omega⟩
          · have e2' : ((m.slot k).st == 2) = false := by simpa using e2
            have e3' : ((m.slot k).st == 3) = false := by simpa using e3
            go_wp2
            exact ⟨fin _ ((Below.refl _ _).alloc (Nat.le_refl _) _) (by omega), by simp [intOf]; omega⟩
      · have e3 := hbusy (by omega)
        have HK : Hid (keyS (m.slot k) = ((m.slot k).conn, (m.slot k).id)) := rfl
        rw [e3] at c0
        generalize (m.slot k).conn = cn at *
        generalize (m.slot k).id = id at *
        go_wp2_with (at_builtin; refine wpList_append_own _ rfl _ _ 61 rfl (w.heap.size + 1) 109 i0 (.agg #[.int .i64 0, .int .i64 0]) 2 16 Try.underlying61 hi hz0 hz1 hz2 rfl (by omega) u3 acc.length (keyCells acc) rfl ?hown ⟨wr.heap.size + 1, 0, none⟩ 1 1 (keyCells [(cn, id)]) rfl rfl ?hnews ?h1 ?h63 ?hbytes ?hbase ?_)
        case hown => exact (hown.alloc _).alloc _
        case hnews => first | exact news_key _ _ (by simp) _ _ _ | (intro j u hu; simpa [keyCells] using hu)
        case h1 => exact keyCells_one _
        case h63 => unfold maxLen; omega
        case hbytes => omega
        case hbase => first | omega | (simp; omega)
        intro v' w2 hown2 hgrow _
        have X0 := Blk.made wr 58 [.int .i64 3, .bool (m.slot k).old, .int .i64 (m.slot k).served, .int .i64 (m.slot k).since, .int .i64 cn, .int .i64 id]
        have X2 := (X0.below ((Below.refl _ _).alloc (Nat.le_refl _) _)).keep (hgrow.block wr.heap.size (by simp; omega) (fun e => by have := (hown.lt _ e.symm).2; omega))
        have y0 := X2.cell (k := 0) (u := .int .i64 3) rfl
        go_wp2
        refine ⟨⟨k + 1, by omega, by go_num, ?_, ?_⟩, by simp [intOf]; omega⟩
        · rw [HS.out, if_neg (by omega), HK.out, keyCells_append]
          simpa using hown2
        · refine ((bel.alloc hbase _).alloc (by simp; omega) _).grown hgrow (by simp; omega) ?_
          intro x hx
          exact (hown.lt x hx).1
    · have hk6 : k = 6 := by omega
      subst hk6
      clear hlt hk
      have c50 := xl.cell hB
      have hlb := xl.lt
      have hskl := sk_len m 6
      have own' : wr.ownsRow B 109 2 (.slice av m.waits.length cv) m.waits.length (keyCells m.waits) := own_keepAt own (fun g hg => by
        have hl := (own.lt g hg).2
        rw [bel.block g (by omega)]
        exact hb0.block g hl) (Nat.le_refl _)
      have hops : ∀ w', Below (w.heap.size + 1) (w.alloc (.cells C.toArray 63)) w' → ∀ k, k < 4 → w'.cell? ⟨w.heap.size, k, none⟩ = some (.bool (m.con k).op) := fun w' hb' k hk => (x0.keep (hb'.block _ (by omega))).cell (hO k hk)
      have HB : Hid (∀ w', Below (w.heap.size + 1) (w.alloc (.cells C.toArray 63)) w' → Below w.heap.size w w') := fun w' hb' => hb0.trans (hb'.mono (by omega))
      have HSh : Hid (m.shownK = m.sk 6 ++ m.waits) := rfl
      generalize C.toArray = CA at *
      generalize m.shownK = SH at *
      go_wp2_with (at_builtin; refine wpList_append_rows rfl _ _ 61 rfl (w.heap.size + 1) 109 i0 (.agg #[.int .i64 0, .int .i64 0]) 2 16 Try.underlying61 hi hz0 hz1 hz2 rfl (by omega) u3 (m.sk 6).length (keyCells (m.sk 6)) rfl hown B (.slice av m.waits.length cv) m.waits.length (keyCells m.waits) rfl own' (keyCells_one _) ?h63 ?hbytes ?hbase ?_)
      case h63 => unfold maxLen; omega
      case hbytes => omega
      case hbase => omega
      intro v' w2 hown2 hgrow
      have bel2 : Below (w.heap.size + 1) (w.alloc (.cells CA 63)) w2 := bel.grown hgrow hbase (fun x hx => (hown.lt x hx).1)
      rw [← keyCells_append, ← List.length_append, ← HSh.out] at hown2
      have hSHl : SH.length ≤ 1000000000006 := by rw [HSh.out, List.length_append]; omega
      have hbase2 : w.heap.size + 1 ≤ w2.heap.size := by have := bel2.size; rw [hsz] at this; exact this
      clear hgrow hown own' bel HSh hskl c50
      obtain ⟨ao, co, rfl, hlen, hao⟩ := own_slice hown2
      go_wp2
      go_loopw [6] (fun i w' => ∃ j : Nat, j ≤ SH.length ∧ i = .int .i64 j ∧ Below w2.heap.size w2 w') (fun i _ => SH.length - (intOf i).toNat)
      case atStart => exact ⟨0, by omega, rfl, Below.refl _ _⟩
      case round =>
        obtain ⟨j, hj, rfl, bj⟩ := hrel
        by_cases hlt : j < SH.length
        · obtain ⟨g, rfl, hg1, hg2⟩ := hao (by omega)
          have own3 : ∀ w', Below w2.heap.size w2 w' → w'.ownsRow (w.heap.size + 1) 109 2 (.slice (some ⟨g, 0, none⟩) SH.length co) SH.length (keyCells SH) := fun w' hb' => own_keepAt hown2 (fun g hg => hb'.block g (hown2.lt g hg).2) (Nat.le_refl _)
          have hcells : ∀ w', Below w2.heap.size w2 w' → ∀ q (hq : q < SH.length), w'.cell? ⟨g, q * 2, none⟩ = some (.int .i64 SH[q].1) ∧ w'.cell? ⟨g, q * 2 + 1, none⟩ = some (.int .i64 SH[q].2) := by
            intro w' hb' q hq
            have p0 := (own3 w' hb').cellAt (q * 2) (by omega)
            have p1 := (own3 w' hb').cellAt (q * 2 + 1) (by omega)
            rw [(keyCells_get SH q hq).1] at p0
            rw [(keyCells_get SH q hq).2] at p1
            exact ⟨p0, p1⟩
          have hjI : (j : Int) < SH.length := by omega
          obtain ⟨n, hn4, e1, hop⟩ := hOk SH[j] (List.getElem_mem hlt)
          have hc0 := hops _ (bel2.trans (bj.mono hbase2)) n hn4
          have hop' : (m.con n).op = true := hop
          rw [hop'] at hc0
          obtain ⟨p0, p1⟩ := hcells _ bj j hlt
          have hne : ∀ q (hq : q < j), SH[j] ≠ SH[q]'(by omega) := fun q hq => nodup_ne hSh hlt hq
          have HC : Hid (∀ w', Below w2.heap.size w2 w' → w'.cell? ⟨g, j * 2, none⟩ = some (.int .i64 (n : Int)) ∧ w'.cell? ⟨g, j * 2 + 1, none⟩ = some (.int .i64 SH[j].2) ∧ w'.cell? ⟨w.heap.size, n, none⟩ = some (.bool true)) := fun w' hb' => ⟨by rw [← e1]; exact (hcells w' hb' j hlt).1, (hcells w' hb' j hlt).2, by rw [← hop']; exact hops _ (bel2.trans (hb'.mono hbase2)) n hn4⟩
          rw [e1] at p0
          go_wp2
          go_loopw [7] (fun i w' => ∃ q : Nat, q ≤ j ∧ i = .int .i64 q ∧ Below w2.heap.size w2 w') (fun i _ => j - (intOf i).toNat)
          case atStart => exact ⟨0, by omega, rfl, bj⟩
          case round =>
            clear p0 p1 hc0 bj
            obtain ⟨q, hq, rfl, bq⟩ := hrel
            by_cases hqj : q < j
            · have hqI : (q : Int) < j := by omega
              obtain ⟨p0, p1, -⟩ := HC.out _ bq
              obtain ⟨q0, q1⟩ := hcells _ bq q (by omega)
              have hn := hne q hqj
              have hqS : (q : Int) < SH.length := by omega
              clear HC hcells own3 hne
              by_cases hx : (n : Int) = (SH[q]'(by omega)).1
              · have hy : SH[j].2 ≠ (SH[q]'(by omega)).2 := fun e => hn (Prod.ext (e1.trans hx) e)
                have hy' : (SH[j].2 == (SH[q]'(by omega)).2) = false := by simpa using hy
                generalize SH[j].2 = y at *
                generalize (SH[q]'(by omega)).1 = x' at *
                generalize (SH[q]'(by omega)).2 = y' at *
                go_wp2
                go_quiet (fail)
                go_wp2
                exact ⟨⟨q + 1, by omega, by go_num, below_dN bq⟩, by simp [intOf]; omega⟩
              · have hx' : ((n : Int) == (SH[q]'(by omega)).1) = false := by simpa using hx
                generalize SH[j].2 = y at *
                generalize (SH[q]'(by omega)).1 = x' at *
                generalize (SH[q]'(by omega)).2 = y' at *
                go_wp2
                go_quiet (fail)
                go_wp2
                exact ⟨⟨q + 1, by omega, by go_num, below_dN bq⟩, by simp [intOf]; omega⟩
            · have hqj' : q = j := by omega
              have hqI : ¬ ((q : Int) < j) := by omega
              go_wp2
              exact ⟨⟨j + 1, by omega, by go_num, bq⟩, by simp [intOf]; omega⟩
        · have hjn : j = SH.length := by omega
          have hjI : ¬ ((j : Int) < SH.length) := by omega
          go_wp2
          go_ret
          exact ⟨rfl, HB.out _ (bel2.trans (bj.mono hbase2))⟩
end Go.Proofs.Ytlafkpaljibonaa

namespace Go.Proofs.Ytlafkpaljibonaa
open Go.RowKit

section
variable {m : PM}

theorem takeAll_set (k : Nat) (all : ByteArray) : ∀ (f : Nat) (m : PM) (t : Nat), (PM.takeAll k all f m t).set = m.set
  | 0, _, _ => rfl
  | f + 1, m, t => by
    unfold PM.takeAll
    split
    · rfl
    · split
      · exact dropAll_set _ (m.shut k)
      · cases m.again k (recT (left all t)).2.1 (recT (left all t)).1
        · simp only [cond_false]
          rw [takeAll_set k all f, settle_set, take_set]
        · exact dropAll_set _ (m.shut k)

theorem lateTo_set' (m : PM) : ∀ k, (m.lateTo k).set = m.set
  | 0 => rfl
  | k + 1 => by
    have ih := lateTo_set' m k
    have e : m.lateTo (k + 1) = cond ((m.lateTo k).lateAt k) (((m.lateTo k).endKeyOf k 6).kill k) (m.lateTo k) := rfl
    rw [e]
    cases (m.lateTo k).lateAt k
    · exact ih
    · exact (bdEndOf_set (m.lateTo k) k 6).trans ih

theorem tick_set (m : PM) : m.tick.set = m.set := by
  unfold PM.tick
  rw [settle_set]
  have hl : m.ticked.late.set = m.set := by
    unfold PM.late
    cases decide (0 < m.ticked.set.tmo)
    · rfl
    · exact lateTo_set' m.ticked 6
  unfold PM.tickS
  cases m.set.dyn
  · exact hl
  · simp only [cond_true]
    unfold PM.spares
    cases (decide (m.ticked.late.freshTo 6 < m.ticked.late.set.mn) && decide (m.ticked.late.usedTo 6 < m.ticked.late.set.ch))
    · cases decide (m.ticked.late.set.mx < m.ticked.late.inTo 2 6)
      · exact hl
      · exact (killAt_req m.ticked.late _).2.trans hl
    · exact (PM.startOne_set m.ticked.late).trans hl

theorem doM_set (m : PM) (x : KSt) (hx : x.ki < 8) : (m.doM x).set = m.set := by
  have p := pickI_bd x.kind 9 (by omega)
  unfold KSt.ki at hx
  unfold PM.doM KSt.ki
  split
  · unfold PM.afterConnect; cases (isC x.cn && !(m.con x.cn.toNat).op) <;> rfl
  split
  · unfold PM.afterHangup
    cases (m.chk x.cn == 0)
    · rfl
    · exact dropAll_set _ (m.shut _)
  split
  · unfold PM.afterFeed
    cases (m.chk x.cn == 0)
    · rfl
    · exact takeAll_set _ _ _ _ _
  split
  · unfold PM.afterSpawned PM.spawned
    cases (m.stE x.sn 1 == 0)
    · rfl
    · simp only [cond_true]
      rw [settle_set]
      cases (m.slot x.sn.toNat).old <;> rfl
  split
  · unfold PM.afterOutput PM.outputs
    cases (m.stE x.sn 3 == 0)
    · rfl
    · simp only [cond_true]
      rw [settle_set]
      cases ((m.slot x.sn.toNat).conn != -1)
      · rfl
      · exact (outN_same _ _ _ _ _).2.2
  split
  · unfold PM.afterFinished PM.finished PM.retires
    cases (m.stE x.sn 3 == 0)
    · rfl
    · simp only [cond_true]
      rw [settle_set]
      cases (m.endKeyOf x.sn.toNat 0).mustGo x.sn.toNat <;> exact bdEndOf_set _ _ _
  split
  · unfold PM.afterDied PM.died
    cases (m.diedE x.sn == 0)
    · rfl
    · simp only [cond_true]
      rw [settle_set]
      exact bdEndOf_set _ _ _
  split
  · exact tick_set m
  · exfalso; omega

theorem doM_set8 (m : PM) (x : KSt) (hx : x.ki = 8) : (m.doM x).set = setC x.set := by
  unfold PM.doM
  rw [if_neg (by omega), if_neg (by omega), if_neg (by omega), if_neg (by omega), if_neg (by omega), if_neg (by omega), if_neg (by omega), if_neg (by omega)]
  unfold PM.afterReload
  rw [setC_ok]
  simp only [cond_true]
  unfold PM.reload
  rw [settle_set]
  have : ∀ k, ((m.withSet (setC x.set)).agesTo k).set = setC x.set := by
    intro k
    induction k with
    | zero => rfl
    | succ k ih =>
      have e : (m.withSet (setC x.set)).agesTo (k + 1) = ((m.withSet (setC x.set)).agesTo k).agesAt k := rfl
      rw [e]
      unfold PM.agesAt
      cases ((((m.withSet (setC x.set)).agesTo k).slot k).st == 2)
      · cases ((((m.withSet (setC x.set)).agesTo k).slot k).st == 1 || (((m.withSet (setC x.set)).agesTo k).slot k).st == 3) <;> exact ih
      · exact ih
  exact this 6

/-- A step of the kind k. -/
def KSt.ofK (x : KSt) (k : Int) : KSt := { x with kind := k }
theorem ofK_ki (x : KSt) {k : Int} (h0 : 0 ≤ k) (h9 : k < 9) : (x.ofK k).ki = k := by
  unfold KSt.ki KSt.ofK pickI
  simp only
  rw [if_neg (by omega)]
  omega
theorem ofK_in64 {x : KSt} (h : x.in64) {k : Int} (h0 : 0 ≤ k) (h9 : k < 9) : (x.ofK k).in64 := ⟨⟨by show -9223372036854775808 ≤ k; omega, by show k ≤ 9223372036854775807; omega⟩, h.2⟩

end

/-- What lies between two turns of the loop: the foreman, and the settings that were last asked for. -/
structure BInv (w : World) (xb fb : Nat) (o : Nat → Tag) (w' : World) (M : PM) : Prop where
  sole : ∃ sv rv, FMem o 1 w' fb M sv rv
  fr : FrN noK w o w'
  xlt : w.heap.size ≤ xb
  xtag : o xb = (0, 0)
  x : Blk w' xb 44 M.set.cells

theorem BInv.below {w w' w'' : World} {xb fb : Nat} {o : Nat → Tag} {M : PM} (h : BInv w xb fb o w' M) (hb : Below w'.heap.size w' w'') : BInv w xb fb o w'' M := by
  obtain ⟨sv, rv, hm⟩ := h.sole
  exact ⟨⟨sv, rv, hm.below hb⟩, h.fr.below hb, h.xlt, h.xtag, h.x.below hb⟩

theorem bounds_do {w w' : World} {xb fb B : Nat} {o : Nat → Tag} {M : PM} (h : BInv w xb fb o w' M) (hf : M.Fit B) (hB : B ≤ 48000000) (x : KSt) (hx : x.in64) (hs : x.s.size ≤ 100000000) :
    Calls Try.prog 23 #[.pointer (some ⟨fb, 0, none⟩), x.val] w' fun r w'' => r = .returned (.int .i64 (M.doE x)) ∧ ∃ o', (∃ sv rv, FMem o' 1 w'' fb (M.doM x) sv rv) ∧ FrN noK w o' w'' ∧ o' xb = (0, 0) ∧ Blk w'' xb 44 M.set.cells := by
  obtain ⟨sv, rv, hm⟩ := h.sole
  refine (do_any hm (by omega) hf hB x hx hs).mono ?_
  rintro r w'' ⟨e, o', sv', rv', h1, h2⟩
  refine ⟨e, o', ⟨sv', rv', h1⟩, h.fr.trans (h2.toN (by omega)), ?_, ?_⟩
  · rw [h2.tags xb h.x.lt]; exact h.xtag
  · exact h.x.keep (h2.block xb h.x.lt (by rw [h.xtag]; decide))

end Go.Proofs.Ytlafkpaljibonaa

namespace Go.Proofs.Ytlafkpaljibonaa
open Go.RowKit

section
variable {o o0 o' : Nat → Tag} {w w' : World} {g q fb : Nat} {m : PM} {sv : Nat → Value} {rv : Value}

/-- A cell of what is nobody's is written. -/
theorem fr0_set (hc : Clean o w) (hg : (o g).1 = 0) (k : Nat) (v : Value) : Fr 0 o w o (w.setCell ⟨g, k, none⟩ v) := by
  have hs : (w.setCell ⟨g, k, none⟩ v).heap.size = w.heap.size := by simp [World.setCell]
  refine ⟨rfl, rfl, rfl, by omega, hc.le (by omega), fun _ _ => rfl, fun j hj hq => Below.heap_setCell _ _ _ j ?_⟩
  intro e
  subst e
  exact hq hg

theorem FrN.set0 (h : FrN o0 w o w') (hg : w.heap.size ≤ g) (k : Nat) (v : Value) : FrN o0 w o (w'.setCell ⟨g, k, none⟩ v) := by
  have hs : (w'.setCell ⟨g, k, none⟩ v).heap.size = w'.heap.size := by simp [World.setCell]
  refine ⟨h.os, h.tape, h.output, by rw [hs]; exact h.size, h.clean.le (by omega), h.tags, fun j hj hq => ?_⟩
  rw [Below.heap_setCell _ _ _ j (fun e => by subst e; exact absurd hj (Nat.not_lt.2 hg))]
  exact h.block j hj hq

theorem fr0_sets (hg : (o g).1 = 0) : ∀ (vs : List Value) (k : Nat) {w : World}, Clean o w → Fr 0 o w o (w.setCells g k vs)
  | [], _, _, hc => Fr.refl hc
  | v :: vs, k, _, hc => (fr0_set hc hg k v).trans (fr0_sets hg vs (k + 1) (fr0_set hc hg k v).clean)

theorem FrN.sets0 (hg : w.heap.size ≤ g) : ∀ (vs : List Value) (k : Nat) {w' : World}, FrN o0 w o w' → FrN o0 w o (w'.setCells g k vs)
  | [], _, _, h => h
  | v :: vs, k, _, h => FrN.sets0 hg vs (k + 1) (h.set0 hg k v)

end
end Go.Proofs.Ytlafkpaljibonaa
