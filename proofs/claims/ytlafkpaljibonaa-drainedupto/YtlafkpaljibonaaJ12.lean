import Derived.Test.YtlafkpaljibonaaJ10
import Derived.Test.YtlafkpaljibonaaJ11
import Derived.Laws.AppendOwnNone
import Derived.Test.YtlafkpaljibonaaJ2
import Derived.Lib.Strings
namespace Go.Proofs.Ytlafkpaljibonaa
open Go.RowKit

/-- append of one row of the call's own onto another. -/
theorem wpList_append_rows {P : Program} {w : World} {ops : Array Oper} {rest : List Oper} {o : Oper} {a : Act} {Q : Exit → Act → World → Prop} (hgd : o.guard = none) (s x : Operand) (t : TypeId)
    (ho : o.op = .call { callee := .builtin .append, args := #[s, x], argTypes := #[t, t] })
    (base : Nat) (e : TypeId) (i : TypeInfo) (z : Value) (size bytes : Nat) (ht : P.underlying t = some (.slice e)) (hi : P.info? e = some i) (hz : i.zero = some z)
    (hsize : i.size = size) (hby : i.bytes = bytes) (hzs : z.cells.size = size) (hsz : 0 < size)
    (v : Value) (n : Nat) (xs : List Value) (hs : a.eval s = v) (hown : w.ownsRow base e size v n xs)
    (base' : Nat) (xv : Value) (m : Nat) (news : List Value) (hx : a.eval x = xv) (hsrc : w.ownsRow base' e size xv m news) (h1 : ∀ u ∈ news, u.oneCell' = true)
    (h63 : n + m ≤ maxLen) (hbytes : (n + m) * bytes ≤ 140737488355328) (hbase : base ≤ w.heap.size)
    (h : ∀ v' w', w'.ownsRow base e size v' (n + m) (xs ++ news) → w.grownBy w' v.ownBlock → wpList P ops Q rest (a.put o.dst v') w') : wpList P ops Q (o :: rest) a w := by
  rcases hsrc.2 with ⟨hv, hm⟩ | ⟨g, cap, cur, hv, -, -⟩
  · subst hm
    have hl := hsrc.1
    have hn : news = [] := List.length_eq_zero_iff.1 (by simpa using hl)
    subst hn
    subst hv
    exact wpList_append_own_none hgd s x t ho base e i size ht hi v n xs hs hown hx (h v w (by simpa using hown) (World.grownBy.refl w _))
  · subst hv
    exact wpList_append_own (w := w) hgd s x t ho base e i z size bytes ht hi hz hsize hby hzs hsz v n xs hs hown ⟨g, 0, none⟩ m cap news hx hsrc.1 (hsrc.cells rfl) h1 h63 hbytes hbase fun v' w' h2 h3 _ => h v' w' h2 h3

def mostI (a b : Int) : Int := if a > b then a else b

set_option maxRecDepth 100000 in
theorem most_any (a b : Int) (w : World) :
    Calls Try.prog 38 #[.int .i64 a, .int .i64 b] w fun r w' => r = .returned (.int .i64 (mostI a b)) ∧ w' = w := by
  by_cases h : a > b
  · have e : mostI a b = a := if_pos h
    rw [e]
    go_enter Try.func38, Try.ntmps38
    go_wp2
    go_ret
    exact ⟨rfl, rfl⟩
  · have e : mostI a b = b := if_neg h
    rw [e]
    go_enter Try.func38, Try.ntmps38
    go_wp2
    go_ret
    exact ⟨rfl, rfl⟩

theorem lookC_get (m : PM) (s : Nat) (hs : s < 6) (bv : Value) (t : Int) (r : Bool) : (lookC m 4 6 bv t r)[8 + s * 6]? = some (.int .i64 (m.slot s).st) ∧ (lookC m 4 6 bv t r)[8 + s * 6 + 1]? = some (.bool (m.slot s).old) ∧ (lookC m 4 6 bv t r)[8 + s * 6 + 2]? = some (.int .i64 (m.slot s).served) ∧ (lookC m 4 6 bv t r)[8 + s * 6 + 3]? = some (.int .i64 (m.slot s).since) ∧ (lookC m 4 6 bv t r)[8 + s * 6 + 4]? = some (.int .i64 (m.slot s).conn) ∧ (lookC m 4 6 bv t r)[8 + s * 6 + 5]? = some (.int .i64 (m.slot s).id) := by
  rcases s with _ | _ | _ | _ | _ | _ | s <;> first | exact ⟨rfl, rfl, rfl, rfl, rfl, rfl⟩ | omega
theorem lookC_op (m : PM) (k : Nat) (hk : k < 4) (bv : Value) (t : Int) (r : Bool) : (lookC m 4 6 bv t r)[k]? = some (.bool (m.con k).op) := by
  rcases k with _ | _ | _ | _ | k <;> first | rfl | omega

set_option maxRecDepth 100000 in
set_option maxHeartbeats 2000000 in
theorem live_any {w : World} (C : List Value) (m : PM) (hC : ∀ s, s < 6 → C[8 + s * 6]? = some (.int .i64 (m.slot s).st)) :
    Calls Try.prog 37 #[.agg C.toArray] w fun r w' => r = .returned (.int .i64 (m.usedTo 6)) ∧ Below w.heap.size w w' := by
  have x0 := Blk.made w 63 C
  have hb0 : Below w.heap.size w (w.alloc (.cells C.toArray 63)) := (Below.refl _ _).alloc (Nat.le_refl _) _
  go_enter Try.func37, Try.ntmps37
  go_wp2
  go_loopw [3, 4] (fun n i w' => ∃ k : Nat, k ≤ 6 ∧ i = .int .i64 k ∧ n = .int .i64 (m.usedTo k) ∧ w' = w.alloc (.cells C.toArray 63)) (fun _ i _ => 6 - (intOf i).toNat)
  case atStart => exact ⟨0, by omega, rfl, rfl, rfl⟩
  case round =>
    obtain ⟨k, hk, rfl, rfl, rfl⟩ := hrel
    by_cases hlt : k < 6
    · have hkI : (k : Int) < 6 := by omega
      have c0 := x0.cell (hC k hlt)
      have HU : Hid (m.usedTo (k + 1) = m.usedTo k + (if (m.slot k).st == 0 then 0 else 1)) := rfl
      have hbd := PM.usedTo_bd m k
      generalize C.toArray = CA at *
      generalize m.usedTo k = u at *
      by_cases h0 : (m.slot k).st = 0
      · rw [h0] at c0
        go_wp2
        exact ⟨⟨k + 1, by omega, by go_num, by rw [HU.out, h0]; simp⟩, by simp [intOf]; omega⟩
      · have h0' : ((m.slot k).st == 0) = false := by simpa using h0
        go_wp2
        exact ⟨⟨k + 1, by omega, by go_num, by rw [HU.out, h0']; simp⟩, by simp [intOf]; omega⟩
    · have hk6 : k = 6 := by omega
      subst hk6
      generalize C.toArray = CA at *
      go_wp2
      go_ret
      exact ⟨rfl, hb0⟩

set_option maxRecDepth 100000 in
set_option maxHeartbeats 4000000 in
theorem once_any {w : World} {B : Nat} {av : Option Addr} {cv : Nat} {m : PM} {a : Bool} {R Q : Int} (h : m.Sure a R Q) (hW : m.waits.length ≤ 1000000000000) (own : w.ownsRow B 109 2 (.slice av m.waits.length cv) m.waits.length (keyCells m.waits)) :
    Calls Try.prog 39 #[.agg (lookC m 4 6 (.slice av m.waits.length cv) m.time true).toArray] w fun r w' => r = .returned (.bool true) ∧ Below w.heap.size w w' := by
  obtain ⟨i0, hi, hz0, hz1, hz2⟩ := info_parts infoKey
  have x0 := Blk.made w 63 (lookC m 4 6 (.slice av m.waits.length cv) m.time true)
  have hb0 : Below w.heap.size w (w.alloc (.cells (lookC m 4 6 (.slice av m.waits.length cv) m.time true).toArray 63)) := (Below.refl _ _).alloc (Nat.le_refl _) _
  have hG := fun s hs => lookC_get m s hs (.slice av m.waits.length cv) m.time true
  have hO := fun k hk => lookC_op m k hk (.slice av m.waits.length cv) m.time true
  have hB : (lookC m 4 6 (.slice av m.waits.length cv) m.time true)[50]? = some (.slice av m.waits.length cv) := rfl
  generalize lookC m 4 6 (.slice av m.waits.length cv) m.time true = C at *
  have hSh := h.law.shown_nodup
  have hOk := fun x hx => h.law.shown_ok (x := x) hx
  go_enter Try.func39, Try.ntmps39
  go_wp2
  go_loopw [3, 4] (fun v i w' => ∃ k : Nat, k ≤ 6 ∧ i = .int .i64 k ∧ w'.ownsRow (w.heap.size + 1) 109 2 v (m.sk k).length (keyCells (m.sk k)) ∧ Below (w.heap.size + 1) (w.alloc (.cells C.toArray 63)) w') (fun _ i _ => 6 - (intOf i).toNat)
  case atStart => exact ⟨0, by omega, rfl, World.ownsRow_nil _ _ _ _, Below.refl _ _⟩
  case round =>
    obtain ⟨k, hk, rfl, hown, bel⟩ := hrel
    have hsz : (w.alloc (.cells C.toArray 63)).heap.size = w.heap.size + 1 := by simp
    have xl := x0.keep (bel.block _ (by omega))
    have hbase := bel.size
    rw [hsz] at hbase
    by_cases hlt : k < 6
    · have hkI : (k : Int) < 6 := by omega
      obtain ⟨g0, g1, g2, g3, g4, g5⟩ := hG k hlt
      have c0 := xl.cell g0
      have c1 := xl.cell g1
      have c2 := xl.cell g2
      have c3 := xl.cell g3
      have c4 := xl.cell g4
      have c5 := xl.cell g5
      have c50 := xl.cell hB
      have hlb := xl.lt
      have hloc := h.law.loc k hlt
      have hcn := h.law.conn hlt
      have hbusy := h.law.busy (k := k) hlt
      have hcalm := h.calm.rest
      have hskl := sk_len m k
      have HS : Hid (m.sk (k + 1) = m.sk k ++ (if (m.slot k).conn < 0 then [] else [keyS (m.slot k)])) := rfl
      have hwl : m.waits.length = 0 ∨ (m.slot k).st ≠ 2 := by
        by_cases e : (m.slot k).st = 2
        · left; rw [hcalm ⟨k, hlt, e⟩]; rfl
        · exact .inr e
      clear hcalm hSh hOk hG hO hB x0 own hb0
      generalize C.toArray = CA at *
      generalize m.sk k = acc at *
      have fin : ∀ w2, Below wr.heap.size wr w2 → (m.slot k).conn < 0 → (∃ k_1 : Nat, k_1 ≤ 6 ∧ Value.int .i64 ((k : Int) + 1) = Value.int .i64 k_1 ∧ w2.ownsRow (w.heap.size + 1) 109 2 u3 (m.sk k_1).length (keyCells (m.sk k_1)) ∧ Below (w.heap.size + 1) (w.alloc (.cells CA 63)) w2) := by
        intro w2 hb2 hlt0
        refine ⟨k + 1, by omega, by go_num, ?_, bel.trans (hb2.mono hbase)⟩
        rw [HS.out, if_pos hlt0, List.append_nil]
        exact own_keepAt hown (fun g hg => hb2.block g (hown.lt g hg).2) (Nat.le_refl _)
      rcases hcn with hneg | ⟨hp0, hp4, -, -⟩
      · have hid := hloc.none hneg
        rw [hneg] at c4
        rw [hid] at c5
        by_cases e3 : (m.slot k).st = 3
        · rw [e3] at c0
          go_wp2
          exact ⟨fin _ ((Below.refl _ _).alloc (Nat.le_refl _) _) (by omega), by simp [intOf]; omega⟩
        · have hsn := (hloc.idle e3).1
          rw [hsn] at c3
          by_cases e2 : (m.slot k).st = 2
          · have ho := hloc.new e2
            have hw0 : m.waits.length = 0 := by rcases hwl with x | x; exact x; exact absurd e2 x
            rw [e2] at c0
            rw [ho] at c1
            rw [hw0] at c50
            go_wp2
            exact ⟨fin _ ((Below.refl _ _).alloc (Nat.le_refl _) _) (by omega), by simp [intOf]; omega⟩
          · have e2' : ((m.slot k).st == 2) = false := by simpa using e2
            have e3' : ((m.slot k).st == 3) = false := by simpa using e3
            go_wp2
            exact ⟨fin _ ((Below.refl _ _).alloc (Nat.le_refl _) _) (by omega), by simp [intOf]; omega⟩
      · have e3 := hbusy (by omega)
        have HK : Hid (keyS (m.slot k) = ((m.slot k).conn, (m.slot k).id)) := rfl
        rw [e3] at c0
        generalize (m.slot k).conn = cn at *
        generalize (m.slot k).id = id at *
        go_wp2_with (at_builtin; refine wpList_append_own _ rfl _ _ 61 rfl (w.heap.size + 1) 109 i0 (.agg #[.int .i64 0, .int .i64 0]) 2 16 Try.underlying61 hi hz0 hz1 hz2 rfl (by omega) u3 acc.length (keyCells acc) rfl ?hown ⟨wr.heap.size + 1, 0, none⟩ 1 1 (keyCells [(cn, id)]) rfl rfl ?hnews ?h1 ?h63 ?hbytes ?hbase ?_)
        case hown => exact (hown.alloc _).alloc _
        case hnews => first | exact news_key _ _ (by simp) _ _ _ | (intro j u hu; simpa [keyCells] using hu)
        case h1 => exact keyCells_one _
        case h63 => unfold maxLen; omega
        case hbytes => omega
        case hbase => first | omega | (simp; omega)
        intro v' w2 hown2 hgrow _
        have X0 := Blk.made wr 58 [.int .i64 3, .bool (m.slot k).old, .int .i64 (m.slot k).served, .int .i64 (m.slot k).since, .int .i64 cn, .int .i64 id]
        have X2 := (X0.below ((Below.refl _ _).alloc (Nat.le_refl _) _)).keep (hgrow.block wr.heap.size (by simp; omega) (fun e => by have := (hown.lt _ e.symm).2; omega))
        have y0 := X2.cell (k := 0) (u := .int .i64 3) rfl
        go_wp2
        refine ⟨⟨k + 1, by omega, by go_num, ?_, ?_⟩, by simp [intOf]; omega⟩
        · rw [HS.out, if_neg (by omega), HK.out, keyCells_append]
          simpa using hown2
        · refine ((bel.alloc hbase _).alloc (by simp; omega) _).grown hgrow (by simp; omega) ?_
          intro x hx
          exact (hown.lt x hx).1
    · have hk6 : k = 6 := by omega
      subst hk6
      clear hlt hk
      have c50 := xl.cell hB
      have hlb := xl.lt
      have hskl := sk_len m 6
      have own' : wr.ownsRow B 109 2 (.slice av m.waits.length cv) m.waits.length (keyCells m.waits) := own_keepAt own (fun g hg => by
        have hl := (own.lt g hg).2
        rw [bel.block g (by omega)]
        exact hb0.block g hl) (Nat.le_refl _)
      have hops : ∀ w', Below (w.heap.size + 1) (w.alloc (.cells C.toArray 63)) w' → ∀ k, k < 4 → w'.cell? ⟨w.heap.size, k, none⟩ = some (.bool (m.con k).op) := fun w' hb' k hk => (x0.keep (hb'.block _ (by omega))).cell (hO k hk)
      have HB : Hid (∀ w', Below (w.heap.size + 1) (w.alloc (.cells C.toArray 63)) w' → Below w.heap.size w w') := fun w' hb' => hb0.trans (hb'.mono (by omega))
      have HSh : Hid (m.shownK = m.sk 6 ++ m.waits) := rfl
      generalize C.toArray = CA at *
      generalize m.shownK = SH at *
      go_wp2_with (at_builtin; refine wpList_append_rows rfl _ _ 61 rfl (w.heap.size + 1) 109 i0 (.agg #[.int .i64 0, .int .i64 0]) 2 16 Try.underlying61 hi hz0 hz1 hz2 rfl (by omega) u3 (m.sk 6).length (keyCells (m.sk 6)) rfl hown B (.slice av m.waits.length cv) m.waits.length (keyCells m.waits) rfl own' (keyCells_one _) ?h63 ?hbytes ?hbase ?_)
      case h63 => unfold maxLen; omega
      case hbytes => omega
      case hbase => omega
      intro v' w2 hown2 hgrow
      have bel2 : Below (w.heap.size + 1) (w.alloc (.cells CA 63)) w2 := bel.grown hgrow hbase (fun x hx => (hown.lt x hx).1)
      rw [← keyCells_append, ← List.length_append, ← HSh.out] at hown2
      have hSHl : SH.length ≤ 1000000000006 := by rw [HSh.out, List.length_append]; omega
      have hbase2 : w.heap.size + 1 ≤ w2.heap.size := by have := bel2.size; rw [hsz] at this; exact this
      clear hgrow hown own' bel HSh hskl c50
      obtain ⟨ao, co, rfl, hlen, hao⟩ := own_slice hown2
      go_wp2
      go_loopw [6] (fun i w' => ∃ j : Nat, j ≤ SH.length ∧ i = .int .i64 j ∧ Below w2.heap.size w2 w') (fun i _ => SH.length - (intOf i).toNat)
      case atStart => exact ⟨0, by omega, rfl, Below.refl _ _⟩
      case round =>
        obtain ⟨j, hj, rfl, bj⟩ := hrel
        by_cases hlt : j < SH.length
        · obtain ⟨g, rfl, hg1, hg2⟩ := hao (by omega)
          have own3 : ∀ w', Below w2.heap.size w2 w' → w'.ownsRow (w.heap.size + 1) 109 2 (.slice (some ⟨g, 0, none⟩) SH.length co) SH.length (keyCells SH) := fun w' hb' => own_keepAt hown2 (fun g hg => hb'.block g (hown2.lt g hg).2) (Nat.le_refl _)
          have hcells : ∀ w', Below w2.heap.size w2 w' → ∀ q (hq : q < SH.length), w'.cell? ⟨g, q * 2, none⟩ = some (.int .i64 SH[q].1) ∧ w'.cell? ⟨g, q * 2 + 1, none⟩ = some (.int .i64 SH[q].2) := by
            intro w' hb' q hq
            have p0 := (own3 w' hb').cellAt (q * 2) (by omega)
            have p1 := (own3 w' hb').cellAt (q * 2 + 1) (by omega)
            rw [(keyCells_get SH q hq).1] at p0
            rw [(keyCells_get SH q hq).2] at p1
            exact ⟨p0, p1⟩
          have hjI : (j : Int) < SH.length := by omega
          obtain ⟨n, hn4, e1, hop⟩ := hOk SH[j] (List.getElem_mem hlt)
          have hc0 := hops _ (bel2.trans (bj.mono hbase2)) n hn4
          have hop' : (m.con n).op = true := hop
          rw [hop'] at hc0
          obtain ⟨p0, p1⟩ := hcells _ bj j hlt
          have hne : ∀ q (hq : q < j), SH[j] ≠ SH[q]'(by omega) := fun q hq => nodup_ne hSh hlt hq
          have HC : Hid (∀ w', Below w2.heap.size w2 w' → w'.cell? ⟨g, j * 2, none⟩ = some (.int .i64 (n : Int)) ∧ w'.cell? ⟨g, j * 2 + 1, none⟩ = some (.int .i64 SH[j].2) ∧ w'.cell? ⟨w.heap.size, n, none⟩ = some (.bool true)) := fun w' hb' => ⟨by rw [← e1]; exact (hcells w' hb' j hlt).1, (hcells w' hb' j hlt).2, by rw [← hop']; exact hops _ (bel2.trans (hb'.mono hbase2)) n hn4⟩
          rw [e1] at p0
          go_wp2
          go_loopw [7] (fun i w' => ∃ q : Nat, q ≤ j ∧ i = .int .i64 q ∧ Below w2.heap.size w2 w') (fun i _ => j - (intOf i).toNat)
          case atStart => exact ⟨0, by omega, rfl, bj⟩
          case round =>
            clear p0 p1 hc0 bj
            obtain ⟨q, hq, rfl, bq⟩ := hrel
            by_cases hqj : q < j
            · have hqI : (q : Int) < j := by omega
              obtain ⟨p0, p1, -⟩ := HC.out _ bq
              obtain ⟨q0, q1⟩ := hcells _ bq q (by omega)
              have hn := hne q hqj
              have hqS : (q : Int) < SH.length := by omega
              clear HC hcells own3 hne
              by_cases hx : (n : Int) = (SH[q]'(by omega)).1
              · have hy : SH[j].2 ≠ (SH[q]'(by omega)).2 := fun e => hn (Prod.ext (e1.trans hx) e)
                have hy' : (SH[j].2 == (SH[q]'(by omega)).2) = false := by simpa using hy
                generalize SH[j].2 = y at *
                generalize (SH[q]'(by omega)).1 = x' at *
                generalize (SH[q]'(by omega)).2 = y' at *
                go_wp2
                go_quiet (fail)
                go_wp2
                exact ⟨⟨q + 1, by omega, by go_num, below_dN bq⟩, by simp [intOf]; omega⟩
              · have hx' : ((n : Int) == (SH[q]'(by omega)).1) = false := by simpa using hx
                generalize SH[j].2 = y at *
                generalize (SH[q]'(by omega)).1 = x' at *
                generalize (SH[q]'(by omega)).2 = y' at *
                go_wp2
                go_quiet (fail)
                go_wp2
                exact ⟨⟨q + 1, by omega, by go_num, below_dN bq⟩, by simp [intOf]; omega⟩
            · have hqj' : q = j := by omega
              have hqI : ¬ ((q : Int) < j) := by omega
              go_wp2
              exact ⟨⟨j + 1, by omega, by go_num, bq⟩, by simp [intOf]; omega⟩
        · have hjn : j = SH.length := by omega
          have hjI : ¬ ((j : Int) < SH.length) := by omega
          go_wp2
          go_ret
          exact ⟨rfl, HB.out _ (bel2.trans (bj.mono hbase2))⟩
end Go.Proofs.Ytlafkpaljibonaa

namespace Go.Proofs.Ytlafkpaljibonaa
open Go.RowKit

section
variable {m : PM}

theorem takeAll_set (k : Nat) (all : ByteArray) : ∀ (f : Nat) (m : PM) (t : Nat), (PM.takeAll k all f m t).set = m.set
  | 0, _, _ => rfl
  | f + 1, m, t => by
    unfold PM.takeAll
    split
    · rfl
    · split
      · exact dropAll_set _ (m.shut k)
      · cases m.again k (recT (left all t)).2.1 (recT (left all t)).1
        · simp only [cond_false]
          rw [takeAll_set k all f, settle_set, take_set]
        · exact dropAll_set _ (m.shut k)

theorem lateTo_set' (m : PM) : ∀ k, (m.lateTo k).set = m.set
  | 0 => rfl
  | k + 1 => by
    have ih := lateTo_set' m k
    have e : m.lateTo (k + 1) = cond ((m.lateTo k).lateAt k) (((m.lateTo k).endKeyOf k 6).kill k) (m.lateTo k) := rfl
    rw [e]
    cases (m.lateTo k).lateAt k
    · exact ih
    · exact (bdEndOf_set (m.lateTo k) k 6).trans ih

theorem tick_set (m : PM) : m.tick.set = m.set := by
  unfold PM.tick
  rw [settle_set]
  have hl : m.ticked.late.set = m.set := by
    unfold PM.late
    cases decide (0 < m.ticked.set.tmo)
    · rfl
    · exact lateTo_set' m.ticked 6
  unfold PM.tickS
  cases m.set.dyn
  · exact hl
  · simp only [cond_true]
    unfold PM.spares
    cases (decide (m.ticked.late.freshTo 6 < m.ticked.late.set.mn) && decide (m.ticked.late.usedTo 6 < m.ticked.late.set.ch))
    · cases decide (m.ticked.late.set.mx < m.ticked.late.inTo 2 6)
      · exact hl
      · exact (killAt_req m.ticked.late _).2.trans hl
    · exact (PM.startOne_set m.ticked.late).trans hl

theorem doM_set (m : PM) (x : KSt) (hx : x.ki < 8) : (m.doM x).set = m.set := by
  have p := pickI_bd x.kind 9 (by omega)
  unfold KSt.ki at hx
  unfold PM.doM KSt.ki
  split
  · unfold PM.afterConnect; cases (isC x.cn && !(m.con x.cn.toNat).op) <;> rfl
  split
  · unfold PM.afterHangup
    cases (m.chk x.cn == 0)
    · rfl
    · exact dropAll_set _ (m.shut _)
  split
  · unfold PM.afterFeed
    cases (m.chk x.cn == 0)
    · rfl
    · exact takeAll_set _ _ _ _ _
  split
  · unfold PM.afterSpawned PM.spawned
    cases (m.stE x.sn 1 == 0)
    · rfl
    · simp only [cond_true]
      rw [settle_set]
      cases (m.slot x.sn.toNat).old <;> rfl
  split
  · unfold PM.afterOutput PM.outputs
    cases (m.stE x.sn 3 == 0)
    · rfl
    · simp only [cond_true]
      rw [settle_set]
      cases ((m.slot x.sn.toNat).conn != -1)
      · rfl
      · exact (outN_same _ _ _ _ _).2.2
  split
  · unfold PM.afterFinished PM.finished PM.retires
    cases (m.stE x.sn 3 == 0)
    · rfl
    · simp only [cond_true]
      rw [settle_set]
      cases (m.endKeyOf x.sn.toNat 0).mustGo x.sn.toNat <;> exact bdEndOf_set _ _ _
  split
  · unfold PM.afterDied PM.died
    cases (m.diedE x.sn == 0)
    · rfl
    · simp only [cond_true]
      rw [settle_set]
      exact bdEndOf_set _ _ _
  split
  · exact tick_set m
  · exfalso; omega

theorem doM_set8 (m : PM) (x : KSt) (hx : x.ki = 8) : (m.doM x).set = setC x.set := by
  unfold PM.doM
  rw [if_neg (by omega), if_neg (by omega), if_neg (by omega), if_neg (by omega), if_neg (by omega), if_neg (by omega), if_neg (by omega), if_neg (by omega)]
  unfold PM.afterReload
  rw [setC_ok]
  simp only [cond_true]
  unfold PM.reload
  rw [settle_set]
  have : ∀ k, ((m.withSet (setC x.set)).agesTo k).set = setC x.set := by
    intro k
    induction k with
    | zero => rfl
    | succ k ih =>
      have e : (m.withSet (setC x.set)).agesTo (k + 1) = ((m.withSet (setC x.set)).agesTo k).agesAt k := rfl
      rw [e]
      unfold PM.agesAt
      cases ((((m.withSet (setC x.set)).agesTo k).slot k).st == 2)
      · cases ((((m.withSet (setC x.set)).agesTo k).slot k).st == 1 || (((m.withSet (setC x.set)).agesTo k).slot k).st == 3) <;> exact ih
      · exact ih
  exact this 6

/-- A step of the kind k. -/
def KSt.ofK (x : KSt) (k : Int) : KSt := { x with kind := k }
theorem ofK_ki (x : KSt) {k : Int} (h0 : 0 ≤ k) (h9 : k < 9) : (x.ofK k).ki = k := by
  unfold KSt.ki KSt.ofK pickI
  simp only
  rw [if_neg (by omega)]
  omega
theorem ofK_in64 {x : KSt} (h : x.in64) {k : Int} (h0 : 0 ≤ k) (h9 : k < 9) : (x.ofK k).in64 := ⟨⟨by show -9223372036854775808 ≤ k; omega, by show k ≤ 9223372036854775807; omega⟩, h.2⟩

end

/-- What lies between two turns of the loop: the foreman, and the settings that were last asked for. -/
structure BInv (w : World) (xb fb : Nat) (o : Nat → Tag) (w' : World) (M : PM) : Prop where
  sole : ∃ sv rv, FMem o 1 w' fb M sv rv
  fr : FrN noK w o w'
  xlt : w.heap.size ≤ xb
  xtag : o xb = (0, 0)
  x : Blk w' xb 44 M.set.cells

theorem BInv.below {w w' w'' : World} {xb fb : Nat} {o : Nat → Tag} {M : PM} (h : BInv w xb fb o w' M) (hb : Below w'.heap.size w' w'') : BInv w xb fb o w'' M := by
  obtain ⟨sv, rv, hm⟩ := h.sole
  exact ⟨⟨sv, rv, hm.below hb⟩, h.fr.below hb, h.xlt, h.xtag, h.x.below hb⟩

theorem bounds_do {w w' : World} {xb fb B : Nat} {o : Nat → Tag} {M : PM} (h : BInv w xb fb o w' M) (hf : M.Fit B) (hB : B ≤ 48000000) (x : KSt) (hx : x.in64) (hs : x.s.size ≤ 100000000) :
    Calls Try.prog 23 #[.pointer (some ⟨fb, 0, none⟩), x.val] w' fun r w'' => r = .returned (.int .i64 (M.doE x)) ∧ ∃ o', (∃ sv rv, FMem o' 1 w'' fb (M.doM x) sv rv) ∧ FrN noK w o' w'' ∧ o' xb = (0, 0) ∧ Blk w'' xb 44 M.set.cells := by
  obtain ⟨sv, rv, hm⟩ := h.sole
  refine (do_any hm (by omega) hf hB x hx hs).mono ?_
  rintro r w'' ⟨e, o', sv', rv', h1, h2⟩
  refine ⟨e, o', ⟨sv', rv', h1⟩, h.fr.trans (h2.toN (by omega)), ?_, ?_⟩
  · rw [h2.tags xb h.x.lt]; exact h.xtag
  · exact h.x.keep (h2.block xb h.x.lt (by rw [h.xtag]; decide))

end Go.Proofs.Ytlafkpaljibonaa

namespace Go.Proofs.Ytlafkpaljibonaa
open Go.RowKit

section
variable {o o0 o' : Nat → Tag} {w w' : World} {g q fb : Nat} {m : PM} {sv : Nat → Value} {rv : Value}

/-- A cell of what is nobody's is written. -/
theorem fr0_set (hc : Clean o w) (hg : (o g).1 = 0) (k : Nat) (v : Value) : Fr 0 o w o (w.setCell ⟨g, k, none⟩ v) := by
  have hs : (w.setCell ⟨g, k, none⟩ v).heap.size = w.heap.size := by simp [World.setCell]
  refine ⟨rfl, rfl, rfl, by omega, hc.le (by omega), fun _ _ => rfl, fun j hj hq => Below.heap_setCell _ _ _ j ?_⟩
  intro e
  subst e
  exact hq hg

theorem FrN.set0 (h : FrN o0 w o w') (hg : w.heap.size ≤ g) (k : Nat) (v : Value) : FrN o0 w o (w'.setCell ⟨g, k, none⟩ v) := by
  have hs : (w'.setCell ⟨g, k, none⟩ v).heap.size = w'.heap.size := by simp [World.setCell]
  refine ⟨h.os, h.tape, h.output, by rw [hs]; exact h.size, h.clean.le (by omega), h.tags, fun j hj hq => ?_⟩
  rw [Below.heap_setCell _ _ _ j (fun e => by subst e; exact absurd hj (Nat.not_lt.2 hg))]
  exact h.block j hj hq

theorem fr0_sets (hg : (o g).1 = 0) : ∀ (vs : List Value) (k : Nat) {w : World}, Clean o w → Fr 0 o w o (w.setCells g k vs)
  | [], _, _, hc => Fr.refl hc
  | v :: vs, k, _, hc => (fr0_set hc hg k v).trans (fr0_sets hg vs (k + 1) (fr0_set hc hg k v).clean)

theorem FrN.sets0 (hg : w.heap.size ≤ g) : ∀ (vs : List Value) (k : Nat) {w' : World}, FrN o0 w o w' → FrN o0 w o (w'.setCells g k vs)
  | [], _, _, h => h
  | v :: vs, k, _, h => FrN.sets0 hg vs (k + 1) (h.set0 hg k v)

end
end Go.Proofs.Ytlafkpaljibonaa

namespace Go.Proofs.Ytlafkpaljibonaa
open Go.RowKit

def encL (r : Rec) (p : List Int) : List Int := [1, r.1, r.2.1 / 256, r.2.1 % 256, 0, (r.2.2.size : Int), (p.length : Int), 0] ++ nums r.2.2 ++ p

theorem enc_encL (k i : Int) (c : ByteArray) (p : List Int) : enc k i c p = strOfNums (encL (k, i, c) p) := rfl

theorem encL_length (r : Rec) (p : List Int) : (encL r p).length = 8 + r.2.2.size + p.length := by simp [encL, nums_length]; omega

theorem str_extract (l : List Int) (a b : Nat) : (strOfNums l).extract a b = strOfNums ((l.drop a).take (b - a)) := by
  apply ByteArray.ext
  apply Array.ext'
  simp [strOfNums, ByteArray.data_extract, List.extract_eq_take_drop, List.map_take, List.map_drop]

theorem str_left (l : List Int) (i : Nat) : left (strOfNums l) i = strOfNums (l.drop i) := by
  unfold left
  rw [str_extract, strOfNums_size]
  congr 1
  rw [List.take_of_length_le (by simp)]

/-- Numbers that are bytes. -/
def Byts (l : List Int) : Prop := ∀ x ∈ l, 0 ≤ x ∧ x ≤ 255

theorem byt_str (l : List Int) (j : Nat) (x : Int) (h : l[j]? = some x) (hx : 0 ≤ x ∧ x ≤ 255) : byt (strOfNums l) j = x := by
  unfold byt strOfNums
  have : ((l.map fun n => UInt8.ofNat n.toNat).toArray).getD j 0 = UInt8.ofNat x.toNat := by
    simp [Array.getD_eq_getD_getElem?, List.getElem?_map, h]
  show (((l.map fun n => UInt8.ofNat n.toNat).toArray.getD j 0).toNat : Int) = x
  rw [this]
  simp
  omega

structure Good (r : Rec) (p : List Int) : Prop where
  al : allowedB r.1 r.2.1 r.2.2.size = true
  pl : p.length ≤ 7

/-- What the head of a record says, when its eight bytes stand there. -/
theorem head_enc (r : Rec) (p l : List Int) (hg : Good r p) (hl : l.take 8 = [1, r.1, r.2.1 / 256, r.2.1 % 256, 0, (r.2.2.size : Int), (p.length : Int), 0]) :
    hKind (strOfNums l) = r.1 ∧ hId (strOfNums l) = r.2.1 ∧ hLen (strOfNums l) = r.2.2.size ∧ hPad (strOfNums l) = p.length ∧ badT (strOfNums l) = false := by
  obtain ⟨hk, k1, k6, i1, i2, c1⟩ := allowedB_bd hg.al
  have hp := hg.pl
  have get : ∀ j x, ([1, r.1, r.2.1 / 256, r.2.1 % 256, 0, (r.2.2.size : Int), (p.length : Int), 0] : List Int)[j]? = some x → j < 8 → l[j]? = some x := by
    intro j x hx hj
    rw [← hl, List.getElem?_take, if_pos hj] at hx
    exact hx
  have g0 := byt_str l 0 _ (get 0 _ rfl (by omega)) (by omega)
  have g1 := byt_str l 1 _ (get 1 _ rfl (by omega)) (by omega)
  have g2 := byt_str l 2 _ (get 2 _ rfl (by omega)) (by omega)
  have g3 := byt_str l 3 _ (get 3 _ rfl (by omega)) (by omega)
  have g4 := byt_str l 4 _ (get 4 _ rfl (by omega)) (by omega)
  have g5 := byt_str l 5 _ (get 5 _ rfl (by omega)) (by omega)
  have g6 := byt_str l 6 _ (get 6 _ rfl (by omega)) (by omega)
  have g7 := byt_str l 7 _ (get 7 _ rfl (by omega)) (by omega)
  have e1 : hKind (strOfNums l) = r.1 := g1
  have e2 : hId (strOfNums l) = r.2.1 := by unfold hId; rw [g2, g3]; omega
  have e3 : hLen (strOfNums l) = r.2.2.size := by unfold hLen; rw [g4, g5]; omega
  have e4 : hPad (strOfNums l) = p.length := g6
  refine ⟨e1, e2, e3, e4, ?_⟩
  unfold badT badB
  rw [e1, e2, e3, e4, g0, g7, hg.al]
  simp
  omega

theorem take8_enc (r : Rec) (p rest : List Int) : (encL r p ++ rest).take 8 = [1, r.1, r.2.1 / 256, r.2.1 % 256, 0, (r.2.2.size : Int), (p.length : Int), 0] := by
  simp [encL]

theorem step_enc (r : Rec) (p rest : List Int) (hg : Good r p) :
    code (strOfNums (encL r p ++ rest)) = 2 ∧ recT (strOfNums (encL r p ++ rest)) = r ∧ sizeT (strOfNums (encL r p ++ rest)) = (encL r p).length := by
  obtain ⟨e1, e2, e3, e4, hb⟩ := head_enc r p (encL r p ++ rest) hg (take8_enc r p rest)
  have hlen := encL_length r p
  have hsz : (strOfNums (encL r p ++ rest)).size = (encL r p).length + rest.length := by rw [strOfNums_size, List.length_append]
  refine ⟨?_, ?_, ?_⟩
  · unfold code
    rw [if_neg (by rw [hsz]; omega), hb, if_neg (by simp), if_neg (by rw [hsz, e3, e4]; omega)]
  · unfold recT
    rw [e1, e2, e3, str_extract]
    have : List.take ((8 + (r.2.2.size : Int)).toNat - 8) (List.drop 8 (encL r p ++ rest)) = nums r.2.2 := by
      have e : (8 + (r.2.2.size : Int)).toNat - 8 = (nums r.2.2).length := by rw [nums_length]; omega
      rw [e]
      have d : List.drop 8 (encL r p ++ rest) = nums r.2.2 ++ (p ++ rest) := by simp [encL]
      rw [d, List.take_left]
    rw [this, strOfNums_nums]
  · unfold sizeT
    rw [e3, e4, hlen]; omega

theorem code_tail (r : Rec) (p : List Int) (hg : Good r p) (m : Nat) (hm : m < (encL r p).length) : code (strOfNums ((encL r p).take m)) = 0 := by
  have hlen := encL_length r p
  have hsz : (strOfNums ((encL r p).take m)).size = m := by rw [strOfNums_size, List.length_take]; omega
  unfold code
  by_cases h8 : m < 8
  · rw [if_pos (by rw [hsz]; omega)]
  · obtain ⟨e1, e2, e3, e4, hb⟩ := head_enc r p ((encL r p).take m) hg (by
      have := take8_enc r p []
      rw [List.append_nil] at this
      rw [List.take_take, Nat.min_eq_left (by omega)]; exact this)
    rw [if_neg (by rw [hsz]; omega), hb, if_neg (by simp), if_pos (by rw [hsz, e3, e4]; omega)]

def encAll (rs : List (Rec × List Int)) : List Int := rs.flatMap fun x => encL x.1 x.2

theorem dec_encs (rs : List (Rec × List Int)) (hg : ∀ x ∈ rs, Good x.1 x.2) (pre t : List Int) (f : Nat) :
    dec (rs.length + f) (strOfNums (pre ++ encAll rs ++ t)) pre.length =
      (rs.map (·.1) ++ (dec f (strOfNums (pre ++ encAll rs ++ t)) (pre ++ encAll rs).length).1, (dec f (strOfNums (pre ++ encAll rs ++ t)) (pre ++ encAll rs).length).2) := by
  induction rs generalizing pre with
  | nil => simp [encAll]
  | cons x rs ih =>
    have e : pre ++ encAll (x :: rs) ++ t = pre ++ encL x.1 x.2 ++ encAll rs ++ t := by simp [encAll]
    have hl : left (strOfNums (pre ++ encAll (x :: rs) ++ t)) pre.length = strOfNums (encL x.1 x.2 ++ (encAll rs ++ t)) := by
      rw [str_left]; congr 1; simp [encAll]
    obtain ⟨h1, h2, h3⟩ := step_enc x.1 x.2 (encAll rs ++ t) (hg x (by simp))
    rw [← hl] at h1 h2 h3
    rw [List.length_cons, show rs.length + 1 + f = (rs.length + f) + 1 from by omega, dec_two h1, h2, h3]
    have := ih (fun y hy => hg y (by simp [hy])) (pre ++ encL x.1 x.2)
    rw [List.length_append] at this
    rw [e, this]
    have e2 : pre ++ encAll (x :: rs) = pre ++ encL x.1 x.2 ++ encAll rs := by simp [encAll]
    rw [e2]
    simp

theorem encAll_len (rs : List (Rec × List Int)) : rs.length ≤ (encAll rs).length := by
  induction rs with
  | nil => simp
  | cons x rs ih => simp only [encAll, List.flatMap_cons, List.length_append, List.length_cons] at ih ⊢; rw [encL_length]; omega

theorem dec_all (rs : List (Rec × List Int)) (hg : ∀ x ∈ rs, Good x.1 x.2) (t : List Int) (e : Int) (he : ∀ f, 0 < f → ∀ s i, left s i = strOfNums t → dec f s i = ([], i, e)) :
    decL (strOfNums (encAll rs ++ t)) = rs.map (·.1) ∧ decN (strOfNums (encAll rs ++ t)) = (encAll rs).length ∧ decE (strOfNums (encAll rs ++ t)) = e := by
  have hlen := encAll_len rs
  obtain ⟨f, hf⟩ : ∃ f, (strOfNums (encAll rs ++ t)).size + 1 = rs.length + (f + 1) := ⟨(strOfNums (encAll rs ++ t)).size - rs.length, by rw [strOfNums_size, List.length_append]; omega⟩
  have h := dec_encs rs hg [] t (f + 1)
  simp only [List.nil_append, List.length_nil] at h
  have hl : left (strOfNums (encAll rs ++ t)) (encAll rs).length = strOfNums t := by rw [str_left]; simp
  rw [he (f + 1) (by omega) _ _ hl] at h
  unfold decL decN decE
  rw [hf, h]
  simp

theorem code_wrong (j : Int) : code (wrongAt j) = 1 := by
  unfold wrongAt
  repeat' split
  all_goals decide +kernel

theorem wrong_str (j : Int) : wrongAt j = strOfNums (nums (wrongAt j)) := (strOfNums_nums _).symm

end Go.Proofs.Ytlafkpaljibonaa

namespace Go.Proofs.Ytlafkpaljibonaa
open Go.RowKit

/-- How many Ends of an Id there are. -/
def endsL (L : List Rec) (i : Int) : Nat := L.countP fun r => r.1 == 3 && r.2.1 == i

/-- A record that may have been sent. -/
def okRec (r : Rec) : Prop := (1 ≤ r.2.1 ∧ r.2.1 ≤ 6) ∧ ((r.1 = 3 ∧ ∃ s : Int, 0 ≤ s ∧ s ≤ 6 ∧ r.2.2 = strOfNums [s]) ∨ (r.1 = 6 ∧ 0 < r.2.2.size ∧ r.2.2.size ≤ 200))

/-- Each record was sent while of its Id fewer Ends were there than Begins. -/
def Tells (b : Int → Int) (L : List Rec) : Prop := ∀ k (hk : k < L.length), okRec L[k] ∧ (endsL (L.take k) L[k].2.1 : Int) < b L[k].2.1

def sentOf (L : List Rec) : List Int := encAll (L.map fun r => (r, []))

theorem endsL_snoc (L : List Rec) (r : Rec) (i : Int) : endsL (L ++ [r]) i = endsL L i + (if r.1 = 3 ∧ r.2.1 = i then 1 else 0) := by
  unfold endsL
  rw [List.countP_append]
  congr 1
  simp [List.countP_cons]

theorem Tells.snoc {b : Int → Int} {L : List Rec} (h : Tells b L) {r : Rec} (hr : okRec r) (hb : (endsL L r.2.1 : Int) < b r.2.1) : Tells b (L ++ [r]) := by
  intro k hk
  by_cases e : k < L.length
  · have e1 : (L ++ [r])[k] = L[k] := List.getElem_append_left e
    rw [e1, List.take_append_of_le_length (by omega)]
    exact h k e
  · have e2 : k = L.length := by simp at hk; omega
    subst e2
    have e1 : (L ++ [r])[L.length] = r := by simp
    rw [e1, List.take_left]
    exact ⟨hr, hb⟩

theorem Tells.mono {b b' : Int → Int} {L : List Rec} (h : Tells b L) (hb : ∀ i, b i ≤ b' i) : Tells b' L := fun k hk => ⟨(h k hk).1, Int.lt_of_lt_of_le (h k hk).2 (hb _)⟩

theorem sentOf_snoc (L : List Rec) (r : Rec) : sentOf (L ++ [r]) = sentOf L ++ encL r [] := by
  unfold sentOf encAll
  simp

/-- What a connection was sent, held against how often each Id was begun. -/
structure PM.Book (b : Nat → Int → Int) (m : PM) : Prop where
  ids : ∀ r ∈ m.req, 1 ≤ r.id ∧ r.id ≤ 6
  line : ∀ c, c < 4 → ∃ L, strOfNums (m.con c).sent = strOfNums (sentOf L) ∧ Tells (b c) L ∧
    ((m.con c).op = true → ∀ i, b c i = endsL L i + (if ((c : Int), i) ∈ m.req.map keyR then 1 else 0))

section
variable {m m' : PM} {b : Nat → Int → Int} {a : Bool} {R Q : Int} {P : Int → Prop}

theorem PM.Book.of (h : m.Book b) (hk : ∀ x, x ∈ m'.req.map keyR ↔ x ∈ m.req.map keyR) (hs : ∀ c, c < 4 → (m'.con c).sent = (m.con c).sent) (ho : ∀ c, c < 4 → (m'.con c).op = true → (m.con c).op = true) : m'.Book b := by
  refine ⟨fun r hr => ?_, fun c hc => ?_⟩
  · obtain ⟨r', hr', e⟩ := List.mem_map.1 ((hk _).1 (List.mem_map.2 ⟨r, hr, rfl⟩))
    have : r'.id = r.id := congrArg Prod.snd e
    rw [← this]; exact h.ids r' hr'
  · obtain ⟨L, h1, h2, h3⟩ := h.line c hc
    refine ⟨L, by rw [hs c hc]; exact h1, h2, fun e i => ?_⟩
    rw [h3 (ho c hc e) i]
    simp only [hk]

theorem mem_without {l : List Req} {c i : Int} {x : Int × Int} : x ∈ (withoutL l c i).map keyR ↔ x ∈ l.map keyR ∧ x ≠ (c, i) := by
  constructor
  · intro h
    obtain ⟨r, hr, rfl⟩ := List.mem_map.1 h
    obtain ⟨h1, h2⟩ := List.mem_filter.1 hr
    refine ⟨List.mem_map.2 ⟨r, h1, rfl⟩, fun e => ?_⟩
    rw [isKey_iff.2 e] at h2; cases h2
  · rintro ⟨h, hn⟩
    obtain ⟨r, hr, rfl⟩ := List.mem_map.1 h
    refine List.mem_map.2 ⟨r, List.mem_filter.2 ⟨hr, ?_⟩, rfl⟩
    cases hk : isKey c i r
    · rfl
    · exact absurd (isKey_iff.1 hk) hn

/-- A record goes out. -/
theorem send_line {L : List Rec} {k : Nat} {kd i : Int} {t : ByteArray} (hL : strOfNums (m.con k).sent = strOfNums (sentOf L)) (hal : allowedB kd i t.size = true) :
    strOfNums ((m.sendB k (encB kd i t)).con k).sent = strOfNums (sentOf (L ++ [(kd, i, t)])) := by
  have e : encB kd i t = strOfNums (encL (kd, i, t) []) := by unfold encB; rw [if_pos hal]; rfl
  simp only [PM.sendB, upd_same]
  rw [sentOf_snoc, ← strOfNums_append, ← strOfNums_append, hL, strOfNums_nums, e]

theorem allow_end {i st : Int} (hi : 1 ≤ i ∧ i ≤ 6) : allowedB 3 i (strOfNums [st]).size = true := by
  have : (strOfNums [st]).size = 1 := by rw [strOfNums_size]; rfl
  rw [this]
  simp [allowedB, isKindB]
  omega

theorem sendB_other {k c : Nat} (hc : c ≠ k) (s : ByteArray) : (m.sendB k s).con c = m.con c := by simp [PM.sendB, upd_other _ _ hc]
theorem sendB_op (k c : Nat) (s : ByteArray) : ((m.sendB k s).con c).op = (m.con c).op := ((ConSame.sendB m k s) c).1

theorem endKey_con (m : PM) (k : Nat) (i st : Int) : (m.endKey k i st).con = (m.sendB k (encB 3 i (strOfNums [st]))).con := (drop_same _ _ _).2.2

/-- A key comes to its end. -/
theorem PM.Book.endKey (h : m.Book b) {k : Nat} (hk : k < 4) {i st : Int} (hs : 0 ≤ st ∧ st ≤ 6) (hin : ((k : Int), i) ∈ m.req.map keyR) (ho : (m.con k).op = true) : (m.endKey k i st).Book b := by
  have hi : 1 ≤ i ∧ i ≤ 6 := by
    obtain ⟨r, hr, e⟩ := List.mem_map.1 hin
    have : r.id = i := congrArg Prod.snd e
    rw [← this]; exact h.ids r hr
  refine ⟨fun r hr => ?_, fun c hc => ?_⟩
  · rw [endKey_req] at hr; exact h.ids r (List.mem_filter.1 hr).1
  · obtain ⟨L, h1, h2, h3⟩ := h.line c hc
    by_cases e : c = k
    · subst e
      have hb := h3 ho i
      rw [if_pos hin] at hb
      refine ⟨L ++ [(3, i, strOfNums [st])], ?_, h2.snoc ⟨hi, .inl ⟨rfl, st, hs.1, hs.2, rfl⟩⟩ (by show (endsL L i : Int) < b c i; omega), fun _ j => ?_⟩
      · rw [endKey_con]; exact send_line h1 (allow_end hi)
      · rw [endsL_snoc, endKey_req]
        simp only [mem_without]
        have := h3 ho j
        by_cases ej : j = i
        · subst ej
          simp only [and_self, if_true, ne_eq, not_true, and_false, if_false]
          omega
        · rw [if_neg (fun x => ej x.2.symm)]
          have hne : ((c : Int), j) ≠ ((c : Int), i) := fun x => ej (congrArg Prod.snd x)
          simp only [ne_eq, hne, not_false_eq_true, and_true]
          omega
    · refine ⟨L, by rw [endKey_con, sendB_other e]; exact h1, h2, fun e2 j => ?_⟩
      rw [endKey_con, sendB_other e] at e2
      rw [h3 e2 j, endKey_req]
      simp only [mem_without]
      have hne : ((c : Int), j) ≠ ((k : Int), i) := fun x => e (by have := congrArg Prod.fst x; simp only at this; omega)
      simp only [ne_eq, hne, not_false_eq_true, and_true]

def bump (b : Nat → Int → Int) (c : Nat) (i : Int) : Nat → Int → Int := fun c' i' => b c' i' + (if c' = c ∧ i' = i then 1 else 0)

theorem bump_le (c : Nat) (i : Int) (c' : Nat) (i' : Int) : b c' i' ≤ bump b c i c' i' := by unfold bump; split <;> omega

/-- A key is begun. -/
theorem PM.Book.add (h : m.Book b) {k : Nat} (hk : k < 4) {i : Int} (hi : 1 ≤ i ∧ i ≤ 6) (hno : ((k : Int), i) ∉ m.req.map keyR) : ({ m with req := m.req ++ [newReq k i] } : PM).Book (bump b k i) := by
  refine ⟨fun r hr => ?_, fun c hc => ?_⟩
  · rcases List.mem_append.1 hr with e | e
    · exact h.ids r e
    · rw [List.mem_singleton.1 e]; exact hi
  · obtain ⟨L, h1, h2, h3⟩ := h.line c hc
    refine ⟨L, h1, h2.mono (bump_le k i c), fun ho j => ?_⟩
    have := h3 ho j
    have e : ((c : Int), j) ∈ (m.req ++ [newReq k i]).map keyR ↔ ((c : Int), j) ∈ m.req.map keyR ∨ (c = k ∧ j = i) := by
      rw [List.map_append, List.mem_append]
      have : ((c : Int), j) ∈ [newReq k i].map keyR ↔ (c = k ∧ j = i) := by
        simp [keyR, newReq]; omega
      rw [this]
    unfold bump
    simp only [e]
    by_cases ek : c = k ∧ j = i
    · obtain ⟨rfl, rfl⟩ := ek
      rw [if_neg hno] at this
      simp
      omega
    · simp only [ek, or_false, if_false]
      omega

/-- A key is refused as it is begun. -/
theorem PM.Book.refuse (h : m.Book b) {k : Nat} (hk : k < 4) {i st : Int} (hs : 0 ≤ st ∧ st ≤ 6) (hi : 1 ≤ i ∧ i ≤ 6) (hno : ((k : Int), i) ∉ m.req.map keyR) (ho : (m.con k).op = true) : (m.endKey k i st).Book (bump b k i) := by
  refine ⟨fun r hr => ?_, fun c hc => ?_⟩
  · rw [endKey_req] at hr; exact h.ids r (List.mem_filter.1 hr).1
  · obtain ⟨L, h1, h2, h3⟩ := h.line c hc
    by_cases e : c = k
    · subst e
      have hb := h3 ho i
      rw [if_neg hno] at hb
      have hbi : bump b c i c i = b c i + 1 := by simp [bump]
      refine ⟨L ++ [(3, i, strOfNums [st])], ?_, (h2.mono (bump_le c i c)).snoc ⟨hi, .inl ⟨rfl, st, hs.1, hs.2, rfl⟩⟩ (by show (endsL L i : Int) < bump b c i c i; omega), fun _ j => ?_⟩
      · rw [endKey_con]; exact send_line h1 (allow_end hi)
      · rw [endsL_snoc, endKey_req]
        simp only [mem_without]
        have := h3 ho j
        by_cases ej : j = i
        · subst ej
          simp only [and_self, if_true, ne_eq, not_true, and_false, if_false, hbi]
          omega
        · rw [if_neg (fun x => ej x.2.symm)]
          have hne : ((c : Int), j) ≠ ((c : Int), i) := fun x => ej (congrArg Prod.snd x)
          simp only [ne_eq, hne, not_false_eq_true, and_true, bump, ej, and_false, if_false]
          omega
    · refine ⟨L, by rw [endKey_con, sendB_other e]; exact h1, h2.mono (bump_le k i c), fun e2 j => ?_⟩
      rw [endKey_con, sendB_other e] at e2
      have := h3 e2 j
      rw [endKey_req]
      simp only [mem_without]
      have hne : ((c : Int), j) ≠ ((k : Int), i) := fun x => e (by have := congrArg Prod.fst x; simp only at this; omega)
      simp only [ne_eq, hne, not_false_eq_true, and_true, bump, e, false_and, if_false]
      omega

/-- A worker's output goes out. -/
theorem PM.Book.out (h : m.Book b) {k : Nat} {i : Int} {t : ByteArray} (ht : 0 < t.size ∧ t.size ≤ 200) (hin : ((k : Int), i) ∈ m.req.map keyR) (ho : (m.con k).op = true) : (m.sendB k (encB 6 i t)).Book b := by
  have hi : 1 ≤ i ∧ i ≤ 6 := by
    obtain ⟨r, hr, e⟩ := List.mem_map.1 hin
    have : r.id = i := congrArg Prod.snd e
    rw [← this]; exact h.ids r hr
  refine ⟨h.ids, fun c hc => ?_⟩
  obtain ⟨L, h1, h2, h3⟩ := h.line c hc
  by_cases e : c = k
  · subst e
    have hb := h3 ho i
    rw [if_pos hin] at hb
    refine ⟨L ++ [(6, i, t)], send_line h1 ?_, h2.snoc ⟨hi, .inr ⟨rfl, ht.1, ht.2⟩⟩ (by show (endsL L i : Int) < b c i; omega), fun _ j => ?_⟩
    · simp [allowedB, isKindB]; omega
    · rw [endsL_snoc, if_neg (fun x => by cases x.1)]
      have := h3 ho j
      exact this
  · exact ⟨L, by rw [sendB_other e]; exact h1, h2, fun e2 j => by rw [sendB_other e] at e2; exact h3 e2 j⟩

theorem PM.Book.outN (h : m.Book b) {k : Nat} {i : Int} (hin : ((k : Int), i) ∈ m.req.map keyR) (ho : (m.con k).op = true) : ∀ (f : Nat) {m1 : PM} (t : ByteArray), m1.Book b → m1.req = m.req → (m1.con k).op = true → (PM.outN k i f m1 t).Book b
  | 0, _, _, h1, _, _ => h1
  | f + 1, m1, t, h1, hr, ho1 => by
    unfold PM.outN
    split
    · exact h1
    · rename_i hz
      refine PM.Book.outN h hin ho f _ (h1.out ⟨?_, ?_⟩ (by rw [hr]; exact hin) ho1) hr (by rw [sendB_op]; exact ho1)
      · rw [ByteArray.size_extract]; omega
      · rw [ByteArray.size_extract]; omega

theorem PM.Book.close (h : m.Book b) (k : Nat) : (m.close k).Book b := by
  have hsub : (m.close k).req.Sublist m.req := dropAll_sub _ (m.shut k)
  refine ⟨fun r hr => h.ids r (hsub.subset hr), fun c hc => ?_⟩
  obtain ⟨L, h1, h2, h3⟩ := h.line c hc
  refine ⟨L, ?_, h2, fun e j => ?_⟩
  · rw [close_con]; split
    · rename_i e; rw [← e]; exact h1
    · exact h1
  · have hck : c ≠ k := by
      rintro rfl
      rw [close_con, if_pos rfl] at e; cases e
    rw [close_con, if_neg hck] at e
    rw [h3 e j]
    have key : ((c : Int), j) ∈ (m.close k).req.map keyR ↔ ((c : Int), j) ∈ m.req.map keyR := by
      constructor
      · intro hx
        exact (hsub.map keyR).subset hx
      · intro hx
        have all : ∀ (l : List (Int × Int)) (m : PM), ((c : Int), j) ∉ l → ((c : Int), j) ∈ m.req.map keyR → ((c : Int), j) ∈ (m.dropAll l).req.map keyR := by
          intro l
          induction l with
          | nil => intro m _ h; exact h
          | cons x l ih =>
            intro m hn h
            refine ih (m.drop x.1 x.2) (fun e => hn (List.mem_cons_of_mem _ e)) ?_
            rw [drop_req]
            exact mem_without.2 ⟨h, fun e => hn (by rw [e]; exact List.mem_cons_self ..)⟩
        refine all _ (m.shut k) (fun hm => ?_) hx
        obtain ⟨r, hr, e2⟩ := List.mem_map.1 hm
        have h4 := (List.mem_filter.1 hr).2
        have h5 : r.conn = (k : Int) := by simpa using h4
        have h6 : r.conn = (c : Int) := congrArg Prod.fst e2
        omega
    simp only [key]

theorem tells_nil (b : Int → Int) : Tells b [] := fun k hk => by simp at hk

def anewB (b : Nat → Int → Int) (c : Nat) : Nat → Int → Int := fun c' i' => if c' = c then 0 else b c' i'

theorem PM.Book.connect (h : m.Book b) {k : Nat} (hno : ∀ i, ((k : Int), i) ∉ m.req.map keyR) : (m.connect k).Book (anewB b k) := by
  refine ⟨h.ids, fun c hc => ?_⟩
  by_cases e : c = k
  · subst e
    refine ⟨[], ?_, tells_nil _, fun _ j => ?_⟩
    · simp [PM.connect, sentOf, encAll]
    · show anewB b c c j = _
      have : ((c : Int), j) ∉ (m.connect c).req.map keyR := hno j
      rw [if_neg this]
      simp [anewB, endsL]
  · obtain ⟨L, h1, h2, h3⟩ := h.line c hc
    have e1 : anewB b k c = b c := by funext i; simp [anewB, e]
    have e2 : (m.connect k).con c = m.con c := by simp [PM.connect, upd_other _ _ e]
    rw [e1, e2]
    exact ⟨L, h1, h2, h3⟩

end
end Go.Proofs.Ytlafkpaljibonaa
