import Derived.Test.YtmjnengplfoiiaaGreatJ18
import Derived.ProofKit
import Derived.OpenShut
import Derived.JoinedCond
import Derived.ShutString
import Derived.ChangeOld
import Derived.Lib.SmallJoins
import Derived.Deep.Slices
import Derived.Deep.Strs
namespace Go.Proofs.YtmjnengplfoiiaaGreat
open Go.RowKit

theorem sim_raw (c : Cfg) (h : c.ok = true) : Sim (rawPM c) (rawRM c) := by
  have hl : ∀ k, (rawRM c).live k = false := fun k => rfl
  refine ⟨rfl, rfl, fun _ _ => rfl, fun _ _ => rfl, fun _ _ => rfl, fun _ _ => rfl, fun _ _ => rfl, fun _ _ => rfl, fun _ _ => rfl, fun _ _ => rfl, ?_, List.Perm.refl _, List.nodup_nil, rfl, ?_, List.nodup_nil, ?_, ?_, ⟨?_, ?_, cfg_ch h⟩, ?_, fun _ _ _ => rfl⟩
  · intro k _ e; cases e
  · intro j k _ _ e; rw [hl] at e; cases e
  · intro i hi; cases hi
  · intro i hi; simp [rawRM] at hi
  · intro i hi; cases hi
  · intro k _ e; cases e
  · intro k _ e; cases e

theorem startRM_settle (c : Cfg) : startRM c = (rawRM c).settle := by
  unfold startRM RM.settle
  have hb : (rawRM c).startAll.back = [] := by
    unfold RM.back
    rw [show (rawRM c).startAll.queue = (rawRM c).queue from (RM.startN_same 6 (rawRM c)).2.2.1]
    rfl
  show _ = RM.leaseN _ 6
  simp only [RM.leaseN, hb]

theorem ok_new (c : Cfg) (h : c.ok = true) : Ok (newPM c) (startRM c) 0 := by
  have hs := sim_raw c h
  have h0 : Ok (rawPM c) (rawRM c) 0 := by
    refine ⟨hs, (fun k _ e => by cases e), ⟨hs.wf, fun i => .inl ?_, Nat.le_refl _, Nat.le_refl _, fun _ => Nat.le_refl _⟩, fun _ => Nat.le_refl _, fun _ _ => Nat.le_refl _⟩
    simp [rawRM, RM.key, noKey]
  rw [startRM_settle]
  exact h0.of (Nat.le_refl _) hs.settle (ConSame.settle _) (LineSame.settle _) h0.good.settle

/-- The steps of a script, where they lie. -/
def IsSteps (w : World) (a : Option Addr) (len : Nat) (X : Nat → St) : Prop :=
  len = 0 ∨ ∃ b off, a = some ⟨b, off, none⟩ ∧ b < w.heap.size ∧ ∀ k, k < len → ∀ j u, ((X k).cells)[j]? = some u → w.cell? ⟨b, off + k * 11 + j, none⟩ = some u

def tot (X : Nat → St) : Nat → Nat
  | 0 => 0
  | k + 1 => tot X k + (X k).s.size + 1

theorem tot_mono (X : Nat → St) {j k : Nat} (h : j ≤ k) : tot X j ≤ tot X k := by
  induction k with
  | zero => have : j = 0 := by omega
            subst this; exact Nat.le_refl _
  | succ k ih =>
    by_cases e : j = k + 1
    · subst e; exact Nat.le_refl _
    · have := ih (by omega)
      simp only [tot]; omega

theorem tot_ge (X : Nat → St) : ∀ k, k ≤ tot X k
  | 0 => Nat.le_refl _
  | k + 1 => by have := tot_ge X k; simp only [tot]; omega

set_option maxRecDepth 100000 in
set_option maxHeartbeats 8000000 in
theorem plays_yes (c : Cfg) (hc : c.ok = true) (sp : Option Addr) (n cap : Nat) (X : Nat → St) (last : Int) (hlast : last ≤ 8) (w : World) (hX : IsSteps w sp n X) (hsum : tot X n ≤ 4000000) :
    Calls Tryz.prog 7 #[c.val, .slice sp n cap, .int .i64 last] w fun r w' => r = .returned (.bool true) ∧ Below w.heap.size w w' := by
  have k1 : Hid (∀ w, Calls Tryz.prog 8 #[c.val] w fun r w' => ∃ gb fb wb o', r = .returned (.tuple #[.pointer (some ⟨gb, 0, none⟩), .bool true]) ∧
      Trio o' w' gb fb wb [] [] (.slice none 0 0) (.slice none 0 0) (newPM c) nilV (.slice none 0 0) (startRM c) nilV (.slice none 0 0) (.slice none 0 0) ∧ Below w.heap.size w w' ∧ ∀ g, g < w.heap.size → o' g = (0, 0)) := fun w => begin_yes c w hc
  have hok0 := ok_new c hc
  have hnT := tot_ge X n
  unfold Cfg.val at *
  generalize newPM c = m0 at *
  generalize startRM c = M0 at *
  have hb0 : Below w.heap.size w (w.alloc (.cells #[.int .i64 c.ch, .bool c.dyn, .int .i64 c.mn, .int .i64 c.mx, .int .i64 c.mr, .int .i64 c.tmo, .int .i64 c.bl] 23)) := (Below.refl _ _).alloc (Nat.le_refl _) _
  go_enter Tryz.func7, Tryz.ntmps7
  go_wp2_with fail
  refine (k1.out _).mono ?_
  rintro e w1 ⟨gb, fb, wb, o1, rfl, tr, hb, ho⟩
  have hb1 : Below w.heap.size w w1 := hb0.trans (hb.mono (by simp))
  have ho1 : ∀ g, g < w.heap.size → o1 g = (0, 0) := fun g hg => ho g (by simp; omega)
  clear hb ho hb0 k1
  have hX1 : IsSteps w1 sp n X := by
    rcases hX with e | ⟨b, off, e, hbl, hcell⟩
    · exact .inl e
    · exact .inr ⟨b, off, e, Nat.lt_of_lt_of_le hbl hb1.size, fun k hk j u hu => by rw [hb1.cell (by exact hbl)]; exact hcell k hk j u hu⟩
  have hbX : ∀ b off, sp = some ⟨b, off, none⟩ → 0 < n → o1 b = (0, 0) ∧ b < w1.heap.size := by
    intro b off e hn
    rcases hX with e0 | ⟨b', off', e', hbl, -⟩
    · omega
    · rw [e] at e'
      simp only [Option.some.injEq, Addr.mk.injEq, and_true] at e'
      rw [e'.1]
      exact ⟨ho1 b' hbl, Nat.lt_of_lt_of_le hbl hb1.size⟩
  have fx0 : FrX o1 w1 o1 w1 := FrX.of_below tr.f.clean (Below.refl _ _)
  go_wp2
  go_loopw [8, 9] (fun okv i w' => ∃ k : Nat, k ≤ n ∧ okv = .bool true ∧ i = .int .i64 k ∧ ∃ o' ls' ts' lv' tv' sv' rv' nv' kv' qv' m' M', Trio o' w' gb fb wb ls' ts' lv' tv' m' sv' rv' M' nv' kv' qv' ∧ Ok m' M' (tot X k) ∧ FrX o1 w1 o' w' ∧ ls'.length ≤ k) (fun _ i _ => n - (intOf i).toNat)
  case atStart => exact ⟨0, by omega, rfl, rfl, o1, [], [], _, _, _, _, _, _, _, m0, M0, tr, hok0, fx0, by simp⟩
  case round =>
    obtain ⟨k, hk, rfl, rfl, o2, ls2, ts2, lv2, tv2, sv2, rv2, nv2, kv2, qv2, m2, M2, t2, hok, hfx, hls⟩ := hrel
    clear tr hok0 fx0
    have htk := tot_mono X hk
    have hsmall := hok.small
    have HL : Hid (∀ (o' : Nat → Tag) (w' : World) (m' : PM) (M' : RM) sv' rv' nv' kv' qv' (B : Nat), Trio o' w' gb fb wb ls2 ts2 lv2 tv2 m' sv' rv' M' nv' kv' qv' → Ok m' M' B → B ≤ 4000000 → Calls Tryz.prog 9 #[.pointer (some ⟨gb, 0, none⟩)] w' fun r w'' => r = .returned (.bool true) ∧ ∃ o'' ls' ts' lv' tv', Trio o'' w'' gb fb wb ls' ts' lv' tv' m' sv' rv' M' nv' kv' qv' ∧ Fr 3 o' w' o'' w'' ∧ ls'.length = ls2.length + 1) := fun o' w' m' M' sv' rv' nv' kv' qv' B h1 h2 h3 =>
      looks_all h1 h2.good.wf h2.same (fun c _ => by have := h2.good.sent c; omega) (by have := h2.small.req; omega) (by have := h2.good.queue; omega) (by omega)
    by_cases hlt : k < n
    · obtain ⟨b, off, rfl, hcell⟩ : ∃ b off, sp = some ⟨b, off, none⟩ ∧ ∀ j u, ((X k).cells)[j]? = some u → wr.cell? ⟨b, off + k * 11 + j, none⟩ = some u := by
        rcases hX1 with e | ⟨b, off, e, hbl, hcell⟩
        · omega
        · obtain ⟨q1, q2⟩ := hbX b off e (by omega)
          exact ⟨b, off, e, fun j u hu => by rw [World.cell?_of_block (hfx.block b q2 (by rw [q1]))]; exact hcell k hlt j u hu⟩
      have HT : Hid (tot X (k + 1) = tot X k + (X k).s.size + 1) := rfl
      have htk1 := tot_mono X (show k + 1 ≤ n from hlt)
      have hsz : (X k).s.size ≤ 4000000 := by have := HT.out; omega
      clear hX hX1 hbX
      generalize X k = x at *
      have hkI : (k : Int) < n := by omega
      have g0 := hcell 0 (.int .i64 x.kind) rfl
      have g1 := hcell 1 (.int .i64 x.a) rfl
      have g2 := hcell 2 (.string x.s) rfl
      have g3 := hcell 3 (.int .i64 x.c.ch) rfl
      have g4 := hcell 4 (.bool x.c.dyn) rfl
      have g5 := hcell 5 (.int .i64 x.c.mn) rfl
      have g6 := hcell 6 (.int .i64 x.c.mx) rfl
      have g7 := hcell 7 (.int .i64 x.c.mr) rfl
      have g8 := hcell 8 (.int .i64 x.c.tmo) rfl
      have g9 := hcell 9 (.int .i64 x.c.bl) rfl
      have g10 := hcell 10 (.int .i64 x.t) rfl
      rw [Nat.add_zero] at g0
      clear hcell
      have hbA : Below wr.heap.size wr (wr.alloc (.cells #[.int .i64 x.kind, .int .i64 x.a, .string x.s, .int .i64 x.c.ch, .bool x.c.dyn, .int .i64 x.c.mn, .int .i64 x.c.mx, .int .i64 x.c.mr, .int .i64 x.c.tmo, .int .i64 x.c.bl, .int .i64 x.t] 32)) := (Below.refl _ _).alloc (Nat.le_refl _) _
      have tA := t2.below hbA
      have fxA := hfx.below hbA
      have hST : Hid (x.kind ≤ last → ∀ w', Trio o2 w' gb fb wb ls2 ts2 lv2 tv2 m2 sv2 rv2 M2 nv2 kv2 qv2 → Calls Tryz.prog 10 #[.pointer (some ⟨gb, 0, none⟩), .agg #[.int .i64 x.kind, .int .i64 x.a, .string x.s, .int .i64 x.c.ch, .bool x.c.dyn, .int .i64 x.c.mn, .int .i64 x.c.mx, .int .i64 x.c.mr, .int .i64 x.c.tmo, .int .i64 x.c.bl, .int .i64 x.t]] w' fun r w'' => r = .returned (.bool true) ∧ After o2 w' gb fb wb ls2 ts2 lv2 tv2 (tot X k + x.s.size + 1) w'') := fun hle w' h' => step_any h' hok (by omega) x (by omega) (by omega)
      by_cases h1 : x.kind = 1
      · have h1' : (x.kind == 1) = true := by simp [h1]
        clear h1 hST
        go_wp2_with fail
        refine (HL.out _ _ _ _ _ _ _ _ _ _ tA hok (by omega)).mono ?_
        rintro e w3 ⟨rfl, o3, ls3, ts3, lv3, tv3, t3, fr3, hl3⟩
        clear g0 g1 g2 g3 g4 g5 g6 g7 g8 g9 g10
        go_wp2
        exact ⟨⟨k + 1, by omega, rfl, by go_num, o3, ls3, ts3, lv3, tv3, _, _, _, _, _, m2, M2, t3, hok.mono (by have := HT.out; omega), fxA.trans (fr3.toX (by omega)), by omega⟩, by simp [intOf]; omega⟩
      · have h1' : (x.kind == 1) = false := by simpa using h1
        by_cases h2 : x.kind ≤ last
        · have hst := hST.out h2
          have HS : Hid _ := hst
          clear hst hST
          go_wp2_with fail
          refine (HS.out _ tA).mono ?_
          rintro e w3 ⟨rfl, o3, sv3, rv3, nv3, kv3, qv3, m3, M3, t3, hok3, fx3⟩
          clear g0 g1 g2 g3 g4 g5 g6 g7 g8 g9 g10
          go_wp2
          exact ⟨⟨k + 1, by omega, rfl, by go_num, o3, ls2, ts2, lv2, tv2, _, _, _, _, _, m3, M3, t3, by rw [HT.out]; exact hok3, fxA.trans fx3, by omega⟩, by simp [intOf]; omega⟩
        · clear hST
          go_wp2
          exact ⟨⟨k + 1, by omega, rfl, by go_num, o2, ls2, ts2, lv2, tv2, _, _, _, _, _, m2, M2, tA, hok.mono (by have := HT.out; omega), fxA, by omega⟩, by simp [intOf]; omega⟩
    · have hkn : k = n := by omega
      have hkI : ¬ ((k : Int) < n) := by omega
      go_wp2_with fail
      refine (HL.out _ _ _ _ _ _ _ _ _ _ t2 hok (by omega)).mono ?_
      rintro e w3 ⟨rfl, o3, ls3, ts3, lv3, tv3, t3, fr3, hl3⟩
      go_wp2
      go_ret
      have fxF := hfx.trans (fr3.toX (by omega))
      refine ⟨rfl, ?_⟩
      exact ⟨fxF.os.trans hb1.os, fxF.tape.trans hb1.tape, fxF.output.trans hb1.output, Nat.le_trans hb1.size fxF.size, fun g hg => (fxF.block g (Nat.lt_of_lt_of_le hg hb1.size) (by rw [ho1 g hg])).trans (hb1.block g hg)⟩

set_option maxRecDepth 100000 in
set_option maxHeartbeats 1000000 in
theorem plays_any (c : Cfg) (sp : Option Addr) (n cap : Nat) (X : Nat → St) (last : Int) (hlast : last ≤ 8) (w : World) (hX : IsSteps w sp n X) (hsum : tot X n ≤ 4000000) :
    Calls Tryz.prog 7 #[c.val, .slice sp n cap, .int .i64 last] w fun r w' => r = .returned (.bool true) ∧ Below w.heap.size w w' := by
  cases h : c.ok
  · have k1 : Hid (∀ w, Calls Tryz.prog 8 #[c.val] w fun r w' => r = .returned (.tuple #[.pointer none, .bool true]) ∧ Below w.heap.size w w') := fun w => begin_no c w h
    unfold Cfg.val at *
    go_enter Tryz.func7, Tryz.ntmps7
    go_wp2_with fail
    refine (k1.out _).mono ?_
    rintro e w1 ⟨rfl, hb⟩
    go_wp2
    go_ret
    exact ⟨rfl, ((Below.refl _ _).alloc (Nat.le_refl _) _).trans (hb.mono (by simp))⟩
  · exact plays_yes c h sp n cap X last hlast w hX hsum

end Go.Proofs.YtmjnengplfoiiaaGreat

namespace Go.Proofs.YtmjnengplfoiiaaGreat.script
open Go.ChangeShapes Go.WideShapes Go.ChangeAt Go.RowKit Go.Joins Go.Deep Go.Proofs.YtmjnengplfoiiaaGreat

set_option maxRecDepth 100000 in
theorem own : ownKnob Tryz.prog.godebug = none := by kernel_rfl
set_option maxRecDepth 100000 in
theorem laidOut : laidOutB Tryz.prog = true := by kernel_rfl
set_option maxRecDepth 100000 in
theorem cellsCfg : Tryz.prog.cellsOf 23 = 7 := by kernel_rfl
set_option maxRecDepth 100000 in
theorem cellsInt : Tryz.prog.cellsOf 3 = 1 := by kernel_rfl
set_option maxRecDepth 100000 in
theorem cellsBool : Tryz.prog.cellsOf 4 = 1 := by kernel_rfl
set_option maxRecDepth 100000 in
theorem cellsStr : Tryz.prog.cellsOf 9 = 1 := by kernel_rfl
set_option maxRecDepth 100000 in
theorem cellsStep : Tryz.prog.cellsOf 32 = 11 := by kernel_rfl

theorem array7 {α : Type} {cs : Array α} (h : cs.size = 7) : ∃ c0 c1 c2 c3 c4 c5 c6, cs = #[c0, c1, c2, c3, c4, c5, c6] := by
  obtain ⟨l⟩ := cs
  match l, h with
  | [c0, c1, c2, c3, c4, c5, c6], _ => exact ⟨c0, c1, c2, c3, c4, c5, c6, rfl⟩

section
variable {P : Program} {H : Type} {enc : TypeId × Value → H} {w : World} {base : Nat} {spare : Nat → Bool} {held : Bool}
theorem trod_struct7 {t : TypeId} {f0 f1 f2 f3 f4 f5 f6 : Field} {fuel : Nat} {cs : List Value} {x : DataW H × List MemPlace} (ht : P.underlying t = some (.struct #[f0, f1, f2, f3, f4, f5, f6])) (h : DataW.trod enc P w base spare held fuel t cs = some x) :
    ∃ y0 y1 y2 y3 y4 y5 y6 n, DataW.trod enc P w base spare held n f0.type ((cs.drop f0.offset).take (P.cellsOf f0.type)) = some y0 ∧ DataW.trod enc P w base spare held n f1.type ((cs.drop f1.offset).take (P.cellsOf f1.type)) = some y1 ∧ DataW.trod enc P w base spare held n f2.type ((cs.drop f2.offset).take (P.cellsOf f2.type)) = some y2 ∧ DataW.trod enc P w base spare held n f3.type ((cs.drop f3.offset).take (P.cellsOf f3.type)) = some y3 ∧ DataW.trod enc P w base spare held n f4.type ((cs.drop f4.offset).take (P.cellsOf f4.type)) = some y4 ∧ DataW.trod enc P w base spare held n f5.type ((cs.drop f5.offset).take (P.cellsOf f5.type)) = some y5 ∧ DataW.trod enc P w base spare held n f6.type ((cs.drop f6.offset).take (P.cellsOf f6.type)) = some y6 := by
  obtain ⟨xs, n, _, rfl, hl, hlen, hf⟩ := DataW.trod_struct ht h
  match xs, hlen with
  | [y0, y1, y2, y3, y4, y5, y6], _ => exact ⟨y0, y1, y2, y3, y4, y5, y6, n, by simpa using hf 0 f0 rfl, by simpa using hf 1 f1 rfl, by simpa using hf 2 f2 rfl, by simpa using hf 3 f3 rfl, by simpa using hf 4 f4 rfl, by simpa using hf 5 f5 rfl, by simpa using hf 6 f6 rfl⟩

theorem open_agg7 {r : Reach} {b0 : Nat} {t : TypeId} {f0 f1 f2 f3 f4 f5 f6 : Field} {v : Value} {d : DataW H} {p : List MemPlace} (hs : P.underlying t = some (.struct #[f0, f1, f2, f3, f4, f5, f6])) (hone : oneCellFields P #[f0, f1, f2, f3, f4, f5, f6] = true) (hC : P.cellsOf t = 7)
    (hv : Value.okWide P w r b0 t v) (h : DataW.Trod enc P w base spare held t v d p) :
    ∃ (v0 v1 v2 v3 v4 v5 v6 : Value) (y0 y1 y2 y3 y4 y5 y6 : DataW H × List MemPlace) (n : Nat), v = .agg #[v0, v1, v2, v3, v4, v5, v6] ∧ DataW.trod enc P w base spare held n f0.type [v0] = some y0 ∧ DataW.trod enc P w base spare held n f1.type [v1] = some y1 ∧ DataW.trod enc P w base spare held n f2.type [v2] = some y2 ∧ DataW.trod enc P w base spare held n f3.type [v3] = some y3 ∧ DataW.trod enc P w base spare held n f4.type [v4] = some y4 ∧ DataW.trod enc P w base spare held n f5.type [v5] = some y5 ∧ DataW.trod enc P w base spare held n f6.type [v6] = some y6 := by
  obtain ⟨cs, rfl, hsz⟩ := okWide_struct hs hv
  obtain ⟨c0, c1, c2, c3, c4, c5, c6, rfl⟩ := array7 (hsz.trans hC)
  obtain ⟨fuel, hf⟩ := h
  obtain ⟨y0, y1, y2, y3, y4, y5, y6, n, h0, h1, h2, h3, h4, h5, h6⟩ := trod_struct7 hs hf
  obtain ⟨o0, k0⟩ := hone_of hone 0 f0 rfl
  obtain ⟨o1, k1⟩ := hone_of hone 1 f1 rfl
  obtain ⟨o2, k2⟩ := hone_of hone 2 f2 rfl
  obtain ⟨o3, k3⟩ := hone_of hone 3 f3 rfl
  obtain ⟨o4, k4⟩ := hone_of hone 4 f4 rfl
  obtain ⟨o5, k5⟩ := hone_of hone 5 f5 rfl
  obtain ⟨o6, k6⟩ := hone_of hone 6 f6 rfl
  exact ⟨c0, c1, c2, c3, c4, c5, c6, y0, y1, y2, y3, y4, y5, y6, n, rfl, by simpa [Value.cells, o0, k0] using h0, by simpa [Value.cells, o1, k1] using h1, by simpa [Value.cells, o2, k2] using h2, by simpa [Value.cells, o3, k3] using h3, by simpa [Value.cells, o4, k4] using h4, by simpa [Value.cells, o5, k5] using h5, by simpa [Value.cells, o6, k6] using h6⟩
end

set_option maxRecDepth 100000 in
/-- A row of settings is one of ours. -/
theorem cfg_of {H : Type} {enc : TypeId × Value → H} {W : World} {r : Reach} {b0 : Nat} {v : Value} {d : DataW H} {p : List MemPlace} (hv : Value.okWide Tryz.prog W r b0 23 v)
    (h : DataW.Trod enc Tryz.prog W 0 (fun _ => true) true 23 v d p) : ∃ c : Cfg, v = c.val := by
  obtain ⟨v0, v1, v2, v3, v4, v5, v6, y0, y1, y2, y3, y4, y5, y6, n, rfl, h0, h1, h2, h3, h4, h5, h6⟩ := open_agg7 Tryz.underlying23 (by kernel_rfl) cellsCfg hv h
  obtain ⟨k0, z0, -, -⟩ := DataW.trod_int Tryz.underlying3 h0
  obtain ⟨k1, z1, -⟩ := DataW.trod_bool Tryz.underlying4 h1
  obtain ⟨k2, z2, -, -⟩ := DataW.trod_int Tryz.underlying3 h2
  obtain ⟨k3, z3, -, -⟩ := DataW.trod_int Tryz.underlying3 h3
  obtain ⟨k4, z4, -, -⟩ := DataW.trod_int Tryz.underlying3 h4
  obtain ⟨k5, z5, -, -⟩ := DataW.trod_int Tryz.underlying3 h5
  obtain ⟨k6, z6, -, -⟩ := DataW.trod_int Tryz.underlying3 h6
  simp at z0 z1 z2 z3 z4 z5 z6
  subst z0 z1 z2 z3 z4 z5 z6
  exact ⟨⟨k0, k1, k2, k3, k4, k5, k6⟩, rfl⟩

theorem bulkAll_append {H : Type} : ∀ (a b : List (DataW H)), Rows.uptoBulkAll (a ++ b) = Rows.uptoBulkAll a + Rows.uptoBulkAll b
  | [], b => by simp [Rows.uptoBulkAll]
  | x :: a, b => by
    have := bulkAll_append a b
    simp only [List.cons_append, Rows.uptoBulkAll, this]
    omega

theorem bulk_tot {H : Type} (D : Nat → DataW H) (X : Nat → St) : ∀ n, (∀ k, k < n → (X k).s.size + 1 ≤ Rows.uptoBulk (D k)) → tot X n ≤ Rows.uptoBulkAll ((List.range n).map D)
  | 0, _ => Nat.zero_le _
  | n + 1, h => by
    have ih := bulk_tot D X n (fun k hk => h k (by omega))
    have hn := h n (by omega)
    rw [List.range_succ, List.map_append, bulkAll_append]
    simp only [tot, List.map_cons, List.map_nil, Rows.uptoBulkAll]
    omega

set_option maxRecDepth 100000 in
set_option maxHeartbeats 1000000 in
theorem step_of {H : Type} {enc : TypeId × Value → H} {W : World} {n : Nat} {cs : List Value} {x : DataW H × List MemPlace} (hl : cs.length = 11) (h : DataW.trod enc Tryz.prog W 0 (fun _ => true) true n 32 cs = some x) :
    ∃ s : St, cs = s.cells ∧ s.s.size + 1 ≤ Rows.uptoBulk x.1 := by
  obtain ⟨xs, n', _, rfl, hl', hlen, hf⟩ := DataW.trod_struct Tryz.underlying32 h
  match cs, hl with
  | [v0, v1, v2, v3, v4, v5, v6, v7, v8, v9, v10], _ =>
    match xs, hlen with
    | [y0, y1, y2, y3, y4], _ =>
      have h0 := hf 0 _ rfl
      have h1 := hf 1 _ rfl
      have h2 := hf 2 _ rfl
      have h3 := hf 3 _ rfl
      have h4 := hf 4 _ rfl
      simp [cellsInt, cellsStr, cellsCfg] at h0 h1 h2 h3 h4
      obtain ⟨a0, z0, -, -⟩ := DataW.trod_int Tryz.underlying3 h0
      obtain ⟨a1, z1, -, -⟩ := DataW.trod_int Tryz.underlying3 h1
      obtain ⟨a2, z2, e2, -⟩ := DataW.trod_string Tryz.underlying9 h2
      obtain ⟨a4, z4, -, -⟩ := DataW.trod_int Tryz.underlying3 h4
      obtain ⟨c0, c1, c2, c3, c4, c5, c6, n3, g0, g1, g2, g3, g4, g5, g6⟩ := trod_struct7 Tryz.underlying23 h3
      simp [cellsInt, cellsBool] at g0 g1 g2 g3 g4 g5 g6
      obtain ⟨b0, q0, -, -⟩ := DataW.trod_int Tryz.underlying3 g0
      obtain ⟨b1, q1, -⟩ := DataW.trod_bool Tryz.underlying4 g1
      obtain ⟨b2, q2, -, -⟩ := DataW.trod_int Tryz.underlying3 g2
      obtain ⟨b3, q3, -, -⟩ := DataW.trod_int Tryz.underlying3 g3
      obtain ⟨b4, q4, -, -⟩ := DataW.trod_int Tryz.underlying3 g4
      obtain ⟨b5, q5, -, -⟩ := DataW.trod_int Tryz.underlying3 g5
      obtain ⟨b6, q6, -, -⟩ := DataW.trod_int Tryz.underlying3 g6
      simp at z0 z1 z2 z4 q0 q1 q2 q3 q4 q5 q6
      subst z0 z1 z2 z4 q0 q1 q2 q3 q4 q5 q6
      refine ⟨⟨a0, a1, a2, ⟨b0, b1, b2, b3, b4, b5, b6⟩, a4⟩, rfl, ?_⟩
      subst e2
      have e : a2.data.toList.length = a2.size := by rw [Array.length_toList]; rfl
      simp only [List.map_cons, List.map_nil, Rows.uptoBulk, Rows.uptoBulkAll]
      omega

set_option maxRecDepth 100000 in
theorem steps_of {H : Type} {enc : TypeId × Value → H} {W : World} {a : Option Addr} {len cap : Nat} {d : DataW H} {p : List MemPlace}
    (h : DataW.Trod enc Tryz.prog W 0 (fun _ => true) true 26 (.slice a len cap) d p) : ∃ X, IsSteps W a len X ∧ tot X len ≤ Rows.uptoBulk d := by
  obtain ⟨fuel, hf⟩ := h
  rcases open_slice Tryz.underlying26 hf with ⟨hcs, _⟩ | ⟨x, l, c, m, n, D, Pl, hcs, _, hl, hm, hmm, hd, hx⟩
  · simp [Value.cells] at hcs
    obtain ⟨rfl, rfl, rfl⟩ := hcs
    exact ⟨fun _ => ⟨0, 0, ⟨#[]⟩, ⟨0, false, 0, 0, 0, 0, 0⟩, 0⟩, .inl rfl, Nat.zero_le _⟩
  · simp [Value.cells] at hcs
    obtain ⟨rfl, rfl, rfl⟩ := hcs
    simp only [Prod.mk.injEq] at hd
    obtain ⟨rfl, -⟩ := hd
    have hle : len ≤ m := by rw [hmm]; split <;> omega
    rw [cellsStep] at hx
    have each : ∀ k, k < len → ∃ s : St, (∀ j u, s.cells[j]? = some u → W.cell? ((x.add (k * 11)).add j) = some u) ∧ s.s.size + 1 ≤ Rows.uptoBulk (D k) := by
      intro k hk
      obtain ⟨cs, h1, h2⟩ := hx k (by omega)
      obtain ⟨_, hlc, hcell⟩ := World.cells?_some h1
      obtain ⟨s, rfl, hb⟩ := step_of hlc h2
      refine ⟨s, ?_, hb⟩
      intro j u hu
      obtain ⟨hj, -⟩ := List.getElem?_eq_some_iff.1 hu
      have := hcell j (by rw [hlc] at hj; exact hj)
      rw [this]; exact hu
    haveI : Inhabited St := ⟨⟨0, 0, ⟨#[]⟩, ⟨0, false, 0, 0, 0, 0, 0⟩, 0⟩⟩
    obtain ⟨X, hX⟩ := choose_lt each
    refine ⟨X, ?_, ?_⟩
    · by_cases h0 : len = 0
      · exact .inl h0
      · right
        obtain ⟨b, off, spot⟩ := x
        have hc := (hX 0 (by omega)).1 0 (.int .i64 (X 0).kind) rfl
        have hspot : spot = none := by simpa [Addr.add] using World.cell?_spot hc
        subst hspot
        have hadd : ∀ i j : Nat, ((⟨b, i, none⟩ : Addr).add j) = ⟨b, i + j, none⟩ := fun i j => by unfold Addr.add; split <;> simp_all
        refine ⟨b, off, rfl, ?_, ?_⟩
        · have := World.block_lt_of_cell? _ _ hc
          rw [hadd, hadd] at this
          exact this
        · intro k hk j u hu
          have := (hX k hk).1 j u hu
          rw [hadd, hadd] at this
          exact this
    · have := bulk_tot D X len (fun k hk => (hX k hk).2)
      simp only [Rows.uptoBulk]
      omega

end Go.Proofs.YtmjnengplfoiiaaGreat.script

namespace Go.Proofs.YtmjnengplfoiiaaGreat.works
open Go.ChangeShapes Go.WideShapes Go.ChangeAt Go.RowKit Go.Joins Go.Deep Go.Proofs.YtmjnengplfoiiaaGreat Go.Proofs.YtmjnengplfoiiaaGreat.script

set_option maxRecDepth 100000 in
set_option maxHeartbeats 1000000 in
theorem walk (c : Cfg) (sp : Option Addr) (n cap : Nat) (X : Nat → St) (w : World) (hX : IsSteps w sp n X) (hsum : tot X n ≤ 4000000) :
    Calls Tryz.prog 5 #[c.val, .slice sp n cap] w fun r w' => r = .returned (.bool true) ∧ Below w.heap.size w w' := by
  have hb0 : Below w.heap.size w (w.alloc (.cells #[.int .i64 c.ch, .bool c.dyn, .int .i64 c.mn, .int .i64 c.mx, .int .i64 c.mr, .int .i64 c.tmo, .int .i64 c.bl] 23)) := (Below.refl _ _).alloc (Nat.le_refl _) _
  have hX1 : IsSteps (w.alloc (.cells #[.int .i64 c.ch, .bool c.dyn, .int .i64 c.mn, .int .i64 c.mx, .int .i64 c.mr, .int .i64 c.tmo, .int .i64 c.bl] 23)) sp n X := by
    rcases hX with e | ⟨b, off, e, hbl, hcell⟩
    · exact .inl e
    · exact .inr ⟨b, off, e, Nat.lt_of_lt_of_le hbl hb0.size, fun k hk j u hu => by rw [hb0.cell (by exact hbl)]; exact hcell k hk j u hu⟩
  have k1 : Hid (∀ w, IsSteps w sp n X → Calls Tryz.prog 7 #[c.val, .slice sp n cap, .int .i64 8] w fun r w' => r = .returned (.bool true) ∧ Below w.heap.size w w') := fun w h => plays_any c sp n cap X 8 (by omega) w h hsum
  clear hX hsum
  unfold Cfg.val at *
  go_enter Tryz.func5, Tryz.ntmps5
  go_wp2_with fail
  refine (k1.out _ hX1).mono ?_
  rintro e w1 ⟨rfl, hb⟩
  go_wp2
  go_ret
  exact ⟨rfl, hb0.trans (hb.mono (by simp))⟩

set_option maxRecDepth 100000 in
theorem contract (H : Type) (enc : TypeId × Value → H) (W : World) (base : Nat) (args : Array Value) (ds gs : List (DataW H)) (before : List MemPlace)
    (hval : ∀ (j : Nat) t v, Tryz.f5.params[j]? = some t → args[j]? = some v → Value.okWide Tryz.prog W .any base t v)
    (hW : DataW.Whole enc Tryz.prog Tryz.f5.params.toList Rows.worksSpec.vars false W args.toList ds gs before) (hk : Rows.uptoSmall H (ds ++ gs) = true) :
    Calls Tryz.prog 5 args W fun e W' => ∃ v, e = .returned v ∧ Rows.worksSpec.post enc Tryz.prog Tryz.f5 false true false false W args v W' := by
  have hW' := hW
  obtain ⟨p, q, hA0, hV, rfl, hfz, hnd⟩ := hW
  have hA : DataW.TrodAll enc Tryz.prog W 0 (fun _ => true) true Tryz.f5.params.toList args.toList ds p := hA0
  rw [Tryz.params5] at hA hval
  obtain ⟨v0, vs0, d0, ds0, p0, q0, hargs, rfl, rfl, h0, r0⟩ := trodAll_cons hA
  obtain ⟨v1, vs1, d1, ds1, p1, q1, rfl, rfl, rfl, h1, r1⟩ := trodAll_cons r0
  obtain ⟨rfl, rfl, rfl⟩ := trodAll_nil r1
  obtain rfl : args = #[v0, v1] := by cases args; simp_all
  obtain ⟨rfl, rfl⟩ := trodVars_none hV
  have k0 := h0
  have k1 := h1
  have lt0 : ∀ x ∈ p0, x.block < W.heap.size := by obtain ⟨m, hm⟩ := k0; exact DataW.trod_lt m _ _ _ hm
  have lt1 : ∀ x ∈ p1, x.block < W.heap.size := by obtain ⟨m, hm⟩ := k1; exact DataW.trod_lt m _ _ _ hm
  obtain ⟨c, rfl⟩ := cfg_of (hval 0 23 v0 rfl rfl) h0
  obtain ⟨a1, len1, cap1, rfl⟩ := okWide_slice Tryz.underlying26 (hval 1 26 v1 rfl rfl)
  obtain ⟨X, hX, hsum⟩ := steps_of h1
  clear hA0
  simp only [List.append_nil] at hW' hk
  have hb : Rows.uptoBulkAll [d0, d1] ≤ 1048576 := of_decide_eq_true hk
  simp only [Rows.uptoBulkAll] at hb
  refine (walk c a1 len1 cap1 X W hX (by omega)).mono fun e W' ⟨he, bel⟩ => ?_
  subst he
  exact ⟨_, rfl, _, _, _, [], _, [], hW', trodAll_mk1 (shut_bool Tryz.underlying4 _), (trodAll_cons_mk (Below.trod laidOut (by kernel_rfl) (of_decide_eq_true (by kernel_rfl)) k0 bel lt0) (trodAll_cons_mk (Below.trod laidOut (by kernel_rfl) (of_decide_eq_true (by kernel_rfl)) k1 bel lt1) trodAll_mk0)), rfl, bel.frame _, fun h => by cases h⟩

set_option maxRecDepth 100000 in
theorem lifted (os : Os) (started : os.Started) (H : Type) (enc : TypeId × Value → H) (F : Stop.Interp) :
    ReturnsInHanded {} Tryz.checked os 5 .any ((Rows.OpenSpec.upto Rows.worksSpec).pre6 enc Tryz.prog Tryz.f5 Rows.worksUptoRow.domain false) (((Rows.OpenSpec.upto Rows.worksSpec).at F).post enc Tryz.prog Tryz.f5 false true false false) := by
  refine returnsInHanded_of_cond (C := Tryz.checked) (s := Rows.OpenSpec.upto Rows.worksSpec) (k := Rows.uptoSmall) rfl own started (by kernel_rfl) Tryz.func5
    (OpenSpec.witness (enc := enc) (C := Tryz.checked) (s := Rows.OpenSpec.upto Rows.worksSpec) (k := Rows.uptoSmall) rfl false ⟨#[], #[.agg #[.int .i64 0, .bool false, .int .i64 0, .int .i64 0, .int .i64 0, .int .i64 0, .int .i64 0], .slice none 0 0], []⟩ 8 (by kernel_rfl) (by kernel_rfl) (by kernel_rfl)
      (x := ([.agg [.lit (.int .i64 0), .lit (.bool false), .lit (.int .i64 0), .lit (.int .i64 0), .lit (.int .i64 0), .lit (.int .i64 0), .lit (.int .i64 0)], .nil], [], [])) (by kernel_rfl) rfl (by kernel_rfl)) ?_
  intro W base args ds gs before hval hW _ hk _
  exact contract H enc W base args ds gs before hval hW hk

set_option maxRecDepth 100000 in
theorem proved : Rows.WorksUptoSaid :=
  OpenClaim.holds_of_cond 5 Tryz.f5 rfl rfl rfl rfl rfl rfl rfl ⟨rfl, rfl, rfl, rfl, rfl⟩ rfl rfl rfl rfl rfl (by kernel_rfl) Tryz.func5 (by kernel_rfl)
    (of_decide_eq_true (by kernel_rfl)) (by unfold Func.isWrapper; first | (rw [if_pos (by decide +kernel)]; kernel_rfl) | (rw [if_neg (by decide +kernel)]; exact ⟨rfl, rfl⟩))
    (fun os started H enc _ F => lifted os started H enc F)
#print axioms proved
end Go.Proofs.YtmjnengplfoiiaaGreat.works
