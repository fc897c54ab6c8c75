import Derived.Test.YtlafkpaljibonaaGreatJ13
import Derived.Test.YtlafkpaljibonaaGreatJ12
namespace Go.Proofs.YtlafkpaljibonaaGreat
open Go.RowKit

theorem ba_nil_iff' (t : ByteArray) : (t.toList == []) = decide (t.size = 0) := by
  rw [ByteArray.toList_eq, Bool.eq_iff_iff, beq_iff_eq, decide_eq_true_eq, ← List.length_eq_zero_iff]
  exact Iff.rfl

section
variable {o : Nat → Tag} {q : Nat} {w : World} {b : Nat} {m : RM} {lv : Nat → Value} {kv qv : Value}

set_option maxRecDepth 100000 in
set_option maxHeartbeats 8000000 in
theorem rOutput_any (h : RMem o q w b m lv kv qv) (hq : q ≠ 0) (hwf : m.wf) (hmax : m.queue.length ≤ 1000000000000) (n : Int) (s : ByteArray) (hs : s.size ≤ 1000000000) {S : Nat} (hS : S ≤ 100000000000) (hsent : ∀ c, c < 4 → (m.line c).sent.length ≤ S) (hf : ∀ k, k < 6 → m.fair k) :
    Calls Tryz.prog 52 #[.pointer (some ⟨b, 0, none⟩), .int .i64 n, .string s] w fun r w' => r = .returned (.int .i64 (m.stE n 3)) ∧ ∃ o' lv', RMem o' q w' b (m.afterOutput n s) lv' kv qv ∧ Fr q o w o' w' := by
  have k1 : Hid (∀ w', RMem o q w' b m lv kv qv → Calls Tryz.prog 77 #[.pointer (some ⟨b, 0, none⟩), .int .i64 n, .int .i64 3] w' fun r w'' => r = .returned (.int .i64 (m.stE n 3)) ∧ w'' = w') := fun w' h' => rState_any h' n 3
  unfold RM.afterOutput
  by_cases he : m.stE n 3 = 0
  · obtain ⟨k, hk, rfl, hst⟩ := RM.stE_zero he
    rw [he] at k1
    rw [he]
    simp only [beq_self_eq_true, cond_true, Int.toNat_natCast]
    clear he
    have hkI : (k : Int) < 6 := by omega
    have hkey := hwf.s k hk hst
    unfold RM.outputs
    obtain ⟨e1, e2, e3, e4, -⟩ := m.putsOut_same k s
    have hw2 := RM.wf_of hwf e1 e2 e3 e4
    have hq2 : (m.putsOut k s).queue.length ≤ 1000000000000 := by rw [e3]; exact hmax
    have ks : Hid (∀ o' lv' w', RMem o' q w' b (m.putsOut k s) lv' kv qv → Calls Tryz.prog 32 #[.pointer (some ⟨b, 0, none⟩)] w' fun r w'' => r = .returned (.tuple #[]) ∧ RMem o' q w'' b (m.putsOut k s).settle lv' kv qv ∧ Fr q o' w' o' w'') := fun o' lv' w' h' => rSettle_any h' hw2 hq2
    have kl : Hid (∀ w', RMem o q w' b m lv kv qv → Calls Tryz.prog 59 #[.pointer (some ⟨b, 0, none⟩), .int .i64 (k : Nat)] w' fun r w'' => r = .returned (.bool (m.live k)) ∧ Below w'.heap.size w' w'') := fun w' h' => live_any h' hwf k hk
    have hfk := hf k hk
    unfold RM.fair at hfk
    have HPO : Hid (m.putsOut k s = cond (m.live k) (RM.outN (m.key (m.slot k).key).conn.toNat (m.key (m.slot k).key).id s.size m s) m) := rfl
    clear e1 e2 e3 e4 hw2 hq2 hf hst
    generalize m.putsOut k s = M at *
    obtain ⟨ak, ck, hkv, hkn, hrow⟩ := h.klist
    subst hkv
    obtain ⟨g, hak, hg, hgb, hgo, -, r0, r1, r2, r3⟩ := hrow _ hkey
    subst hak
    have hkeyI : ((m.slot k).key : Int) < m.keys.length := by omega
    have z0 := h.keysv
    obtain ⟨-, -, -, -, c4⟩ := h.slotc hk
    have hbl := h.blk.lt
    rw [← m.key_eq hkey] at r0 r1 r2 r3
    have HK : Hid (∀ w', Below w.heap.size w w' → w'.cell? ⟨b, 54, none⟩ = some (.slice (some ⟨g, 0, none⟩) m.keys.length ck) ∧ w'.cell? ⟨b, 24 + k * 5 + 4, none⟩ = some (.int .i64 (m.slot k).key) ∧ w'.cell? ⟨g, (m.slot k).key * 4, none⟩ = some (.int .i64 (m.key (m.slot k).key).conn) ∧ w'.cell? ⟨g, (m.slot k).key * 4 + 1, none⟩ = some (.int .i64 (m.key (m.slot k).key).id) ∧ w'.cell? ⟨g, (m.slot k).key * 4 + 2, none⟩ = some (.string (m.key (m.slot k).key).body) ∧ w'.cell? ⟨g, (m.slot k).key * 4 + 3, none⟩ = some (.int .i64 (m.key (m.slot k).key).is)) := fun w' hb => ⟨(hb.cell (by exact hbl)).trans z0, (hb.cell (by exact hbl)).trans c4, (hb.cell (by exact hg)).trans r0, (hb.cell (by exact hg)).trans r1, (hb.cell (by exact hg)).trans r2, (hb.cell (by exact hg)).trans r3⟩
    clear hrow z0 c4 r0 r1 r2 r3
    generalize (m.key (m.slot k).key).conn = cn at *
    generalize (m.key (m.slot k).key).id = id at *
    generalize (m.key (m.slot k).key).body = bd at *
    generalize (m.key (m.slot k).key).is = is at *
    generalize (m.slot k).key = key at *
    cases hlive : m.live k
    · rw [hlive] at kl HPO
      have hM : m = M := HPO.out.symm
      subst hM
      clear HPO hfk hlive
      go_enter Tryz.func52, Tryz.ntmps52
      go_wp2_with fail
      refine (k1.out _ h).mono ?_
      rintro e w1 ⟨rfl, rfl⟩
      go_wp2_with fail
      refine (kl.out _ h).mono ?_
      rintro e w2 ⟨rfl, hb2⟩
      obtain ⟨z0, c4, r0, r1, r2, r3⟩ := HK.out _ hb2
      have hsz := hb2.size
      go_wp2_with fail
      go_region_held3 (fun w' => w'.cell? ⟨b, 54, none⟩ = some (.slice (some ⟨g, 0, none⟩) m.keys.length ck) ∧ w'.cell? ⟨b, 24 + k * 5 + 4, none⟩ = some (.int .i64 key) ∧ w'.cell? ⟨g, key * 4, none⟩ = some (.int .i64 cn) ∧ w'.cell? ⟨g, key * 4 + 1, none⟩ = some (.int .i64 id) ∧ w'.cell? ⟨g, key * 4 + 2, none⟩ = some (.string bd) ∧ w'.cell? ⟨g, key * 4 + 3, none⟩ = some (.int .i64 is)) (first | exact ⟨z0, c4, r0, r1, r2, r3⟩ | exact HK.out _ (hb2.trans (by repeat (first | refine Below.setCell ?_ (by first | omega | (simp; done) | (simp; omega)) _ | refine Below.drew ?_ | refine Below.alloc ?_ (by first | omega | (simp; done) | (simp; omega)) _ | exact Below.refl _ _)))) (fail)
      have hbA : Below w2.heap.size w2 (w2.alloc (.cells #[.int .i64 cn, .int .i64 id, .string bd, .int .i64 is] 99)).drew := ((Below.refl _ _).alloc (Nat.le_refl _) _).drew
      have x0 : Blk (w2.alloc (.cells #[.int .i64 cn, .int .i64 id, .string bd, .int .i64 is] 99)).drew w2.heap.size 99 [.int .i64 cn, .int .i64 id, .string bd, .int .i64 is] := Blk.made w2 99 [.int .i64 cn, .int .i64 id, .string bd, .int .i64 is]
      have hm2 := h.below hb2
      have hm3 := hm2.below hbA
      have fr3 := (Fr.of_below (q := q) h.clean hb2).below hbA
      have hcl := hm2.clean _ (Nat.le_refl w2.heap.size)
      clear z0 c4 r0 r1 r2 r3
      generalize (w2.alloc (.cells #[.int .i64 cn, .int .i64 id, .string bd, .int .i64 is] 99)).drew = w3 at *
      have hlt0 := x0.lt
      go_wp2
      refine wp_loop_rounds 1 ?_
      rw [rounds_succ]
      go_wp2_with fail
      refine (ks.out _ _ _ hm3).mono ?_
      rintro e w4 ⟨rfl, hm4, fr4⟩
      go_wp2
      go_ret
      exact ⟨rfl, _, _, hm4, fr3.trans fr4⟩
    · rw [hlive] at kl HPO
      obtain ⟨c, hc, hcn⟩ := hfk hlive
      subst hcn
      simp only [cond_true, Int.toNat_natCast] at HPO
      clear hfk hlive
      go_enter Tryz.func52, Tryz.ntmps52
      go_wp2_with fail
      refine (k1.out _ h).mono ?_
      rintro e w1 ⟨rfl, rfl⟩
      go_wp2_with fail
      refine (kl.out _ h).mono ?_
      rintro e w2 ⟨rfl, hb2⟩
      obtain ⟨z0, c4, r0, r1, r2, r3⟩ := HK.out _ hb2
      have hsz := hb2.size
      go_wp2_with fail
      go_region_held3 (fun w' => w'.cell? ⟨b, 54, none⟩ = some (.slice (some ⟨g, 0, none⟩) m.keys.length ck) ∧ w'.cell? ⟨b, 24 + k * 5 + 4, none⟩ = some (.int .i64 key) ∧ w'.cell? ⟨g, key * 4, none⟩ = some (.int .i64 (c : Nat)) ∧ w'.cell? ⟨g, key * 4 + 1, none⟩ = some (.int .i64 id) ∧ w'.cell? ⟨g, key * 4 + 2, none⟩ = some (.string bd) ∧ w'.cell? ⟨g, key * 4 + 3, none⟩ = some (.int .i64 is)) (first | exact ⟨z0, c4, r0, r1, r2, r3⟩ | exact HK.out _ (hb2.trans (by repeat (first | refine Below.setCell ?_ (by first | omega | (simp; done) | (simp; omega)) _ | refine Below.drew ?_ | refine Below.alloc ?_ (by first | omega | (simp; done) | (simp; omega)) _ | exact Below.refl _ _)))) (fail)
      have hbA : Below w2.heap.size w2 (w2.alloc (.cells #[.int .i64 (c : Nat), .int .i64 id, .string bd, .int .i64 is] 99)).drew := ((Below.refl _ _).alloc (Nat.le_refl _) _).drew
      have x0 : Blk (w2.alloc (.cells #[.int .i64 (c : Nat), .int .i64 id, .string bd, .int .i64 is] 99)).drew w2.heap.size 99 [.int .i64 (c : Nat), .int .i64 id, .string bd, .int .i64 is] := Blk.made w2 99 [.int .i64 (c : Nat), .int .i64 id, .string bd, .int .i64 is]
      have hm2 := h.below hb2
      have hm3 := hm2.below hbA
      have fr3 := (Fr.of_below (q := q) h.clean hb2).below hbA
      have hcl := hm2.clean _ (Nat.le_refl w2.heap.size)
      clear z0 c4 r0 r1 r2 r3
      generalize (w2.alloc (.cells #[.int .i64 (c : Nat), .int .i64 id, .string bd, .int .i64 is] 99)).drew = w3 at *
      have hlt0 := x0.lt
      go_wp2_with fail
      have frR := Fr.refl (q := q) hm3.clean
      go_loopg [2, 10] s.size (fun gg t _ w' => ∃ (T : ByteArray) (M' : RM) (o' : Nat → Tag) (lv' : Nat → Value), t = .string T ∧ T.size ≤ gg ∧ T.size ≤ s.size ∧ RMem o' q w' b M' lv' (.slice (some ⟨g, 0, none⟩) m.keys.length ck) qv ∧ Fr q o w3 o' w' ∧ Blk w' w2.heap.size 99 [.int .i64 (c : Nat), .int .i64 id, .string bd, .int .i64 is] ∧ RM.outN c id s.size m s = RM.outN c id gg M' T ∧ (M'.line c).sent.length ≤ S + (s.size - T.size))
      case atStart => exact ⟨s, m, o, lv, rfl, Nat.le_refl _, Nat.le_refl _, hm3, frR, x0, rfl, by have := hsent c hc; omega⟩
      case round =>
        obtain ⟨T, M', o1, lv1, rfl, hTg, hTs, hm, hfr, hbk, heq, hsn⟩ := hrel
        clear hm3 frR x0 h hm2 hbA
        have HOWN : Hid ((o1 w2.heap.size).1 ≠ q) := by show _ ≠ _; rw [hfr.tags _ hlt0, hcl]; exact fun e => hq e.symm
        have HE : Hid _ := heq
        clear heq
        have y0 := hbk.cell (k := 0) (u := .int .i64 (c : Nat)) rfl
        have y1 := hbk.cell (k := 1) (u := .int .i64 id) rfl
        by_cases hT : T.size = 0
        · have hfin : Hid (M = M') := by show _ = _; rw [HPO.out, HE.out, RM.outN_nil _ _ _ _ _ hT]
          have hn : ¬ ((0 : Int) < T.size) := by omega
          have hn2 : decide ((T.size : Int) > 0) = false := by simpa using hT
          clear HE hT
          go_wp2_with fail
          refine (ks.out _ _ _ (by rw [hfin.out]; exact hm)).mono ?_
          rintro e w4 ⟨rfl, hm4, fr4⟩
          go_wp2
          go_ret
          exact ⟨rfl, _, _, hm4, (fr3.trans hfr).trans fr4⟩
        · obtain ⟨g', hg'⟩ : ∃ g', gk = g' + 1 := ⟨gk - 1, by omega⟩
          have hn : (0 : Int) < T.size := by omega
          have HV : Hid (RM.outN c id s.size m s = RM.outN c id g' (M'.send c (6, id, T.extract 0 (min T.size 200))) (T.extract (min T.size 200) T.size)) := by
            show _ = _
            rw [HE.out, hg']
            simp [RM.outN, hT]
          have hgk : g' < gk := by omega
          clear HE
          have hmd := hm.below (Below.refl _ _).drew
          have hsn2 : (M'.line c).sent.length ≤ 1000000000000 := by omega
          have hlen : ((M'.send c (6, id, T.extract 0 (min T.size 200))).line c).sent.length ≤ S + (s.size - (T.extract (min T.size 200) T.size).size) := by
            simp only [RM.send, upd_same, List.length_append, List.length_singleton, ByteArray.size_extract]
            omega
          have HLEN : Hid _ := hlen
          have hsz1 : (T.extract (min T.size 200) T.size).size ≤ g' := by rw [ByteArray.size_extract]; omega
          have hsz2 : (T.extract (min T.size 200) T.size).size ≤ s.size := by rw [ByteArray.size_extract]; omega
          have HSZ1 : Hid _ := hsz1
          have HSZ2 : Hid _ := hsz2
          clear hlen hsz1 hsz2 hg'
          have ksn : Hid (∀ w' o' lv', RMem o' q w' b M' lv' (.slice (some ⟨g, 0, none⟩) m.keys.length ck) qv → ∀ t, Calls Tryz.prog 90 #[.pointer (some ⟨b, 0, none⟩), .int .i64 (c : Nat), .int .i64 6, .int .i64 id, .string t] w' fun r w'' => r = .returned (.tuple #[]) ∧ ∃ o'' lv'', RMem o'' q w'' b (M'.send c (6, id, t)) lv'' (.slice (some ⟨g, 0, none⟩) m.keys.length ck) qv ∧ Fr q o' w' o'' w'') := fun w' o' lv' h' t => rSend_any h' c hc 6 id t hsn2
          by_cases hbig : 200 < T.size
          · have hmin : min T.size 200 = 200 := by omega
            rw [hmin] at HV HLEN HSZ1 HSZ2
            have hbI : (200 : Int) < T.size := by omega
            have hbI2 : (200 : Int) ≤ T.size := by omega
            clear hmin
            go_wp2_with fail
            go_region_held3 (fun w' => w'.cell? ⟨w2.heap.size, 0, none⟩ = some (.int .i64 (c : Nat)) ∧ w'.cell? ⟨w2.heap.size, 1, none⟩ = some (.int .i64 id)) (first | exact ⟨y0, y1⟩ | exact ⟨v0, v1⟩) (first | (go_at_call 90; refine (ksn.out _ _ _ hmd _).mono ?_; rintro e w5 ⟨rfl, o5, lv5, hm5, fr5⟩; have hbk2 : Blk w5 w2.heap.size 99 [.int .i64 (c : Nat), .int .i64 id, .string bd, .int .i64 is] := hbk.keep (fr5.block _ hbk.lt (HOWN.out)); have v0 := hbk2.cell (k := 0) (u := .int .i64 (c : Nat)) rfl; have v1 := hbk2.cell (k := 1) (u := .int .i64 id) rfl))
            have frB := (hfr.below (Below.refl _ _).drew).trans fr5
            clear y0 y1 v0 v1 hbk hm hfr hmd
            go_wp2
            go_roundg g'
            case measure => exact hgk
            case rel => exact ⟨T.extract 200 T.size, _, o5, lv5, rfl, HSZ1.out, HSZ2.out, hm5, frB, hbk2, HV.out, HLEN.out⟩
          · have hmin : min T.size 200 = T.size := by omega
            have e1 : T.extract 0 T.size = T := by simp
            have e2 : T.extract T.size T.size = ByteArray.empty := by simp
            rw [hmin, e1, e2] at HV HLEN
            rw [hmin, e2] at HSZ1 HSZ2
            clear e1 e2
            have hbI : ¬ (200 : Int) < T.size := by omega
            clear hmin
            go_wp2_with fail
            go_region_held3 (fun w' => w'.cell? ⟨w2.heap.size, 0, none⟩ = some (.int .i64 (c : Nat)) ∧ w'.cell? ⟨w2.heap.size, 1, none⟩ = some (.int .i64 id)) (first | exact ⟨y0, y1⟩ | exact ⟨v0, v1⟩) (first | (go_at_call 90; refine (ksn.out _ _ _ hmd _).mono ?_; rintro e w5 ⟨rfl, o5, lv5, hm5, fr5⟩; have hbk2 : Blk w5 w2.heap.size 99 [.int .i64 (c : Nat), .int .i64 id, .string bd, .int .i64 is] := hbk.keep (fr5.block _ hbk.lt (HOWN.out)); have v0 := hbk2.cell (k := 0) (u := .int .i64 (c : Nat)) rfl; have v1 := hbk2.cell (k := 1) (u := .int .i64 id) rfl))
            have frB := (hfr.below (Below.refl _ _).drew).trans fr5
            clear y0 y1 v0 v1 hbk hm hfr hmd
            go_wp2
            go_roundg g'
            case measure => exact hgk
            case rel => exact ⟨ByteArray.empty, _, o5, lv5, rfl, HSZ1.out, HSZ2.out, hm5, frB, hbk2, HV.out, HLEN.out⟩
  · have he2 : (m.stE n 3 == 0) = false := by simpa using he
    simp only [he2, cond_false]
    generalize m.stE n 3 = E at *
    go_enter Tryz.func52, Tryz.ntmps52
    go_wp2_with fail
    refine (k1.out _ h).mono ?_
    rintro e w1 ⟨rfl, rfl⟩
    go_wp2
    go_ret
    exact ⟨rfl, o, lv, h, Fr.refl h.clean⟩

end
end Go.Proofs.YtlafkpaljibonaaGreat

namespace Go.Proofs.YtlafkpaljibonaaGreat
open Go.RowKit

/-- What the program knows is what the document knows (but for what has come and was not taken). -/
structure Sim (m : PM) (M : RM) : Prop where
  set : m.set = M.set
  time : m.time = M.time
  op : ∀ k, k < 4 → (m.con k).op = (M.line k).op
  sent : ∀ k, k < 4 → (m.con k).sent = nums (encs (M.line k).sent)
  st : ∀ k, k < 6 → (m.slot k).st = (M.slot k).st
  old : ∀ k, k < 6 → (m.slot k).old = (M.slot k).old
  served : ∀ k, k < 6 → (m.slot k).served = (M.slot k).served
  since : ∀ k, k < 6 → (m.slot k).since = (M.slot k).since
  conn : ∀ k, k < 6 → (m.slot k).conn = M.connOf k
  id : ∀ k, k < 6 → (m.slot k).id = M.idOf k
  job : ∀ k, k < 6 → (M.slot k).st = 3 → (m.slot k).job = (M.key (M.slot k).key).body
  view : m.view.Perm M.view
  nodup : (M.view.map KV.key).Nodup
  waits : m.waits = M.waits
  one : ∀ j k, j < 6 → k < 6 → M.live j = true → M.live k = true → (M.slot j).key = (M.slot k).key → j = k
  qnd : M.queue.Nodup
  qis : ∀ i ∈ M.queue, (M.key i).is ≠ 0
  range : ∀ i (hi : i < M.keys.length), ∃ c : Nat, c < 4 ∧ M.keys[i].conn = c
  wf : M.wf
  busy : ∀ s, s < 6 → (M.slot s).st = 3 → (M.key (M.slot s).key).is = 2 ∨ (M.key (M.slot s).key).is = 3
  idle0 : ∀ s, s < 6 → (M.slot s).st ≠ 3 → (M.slot s).since = 0

theorem key_inj {l : List KV} (hn : (l.map KV.key).Nodup) : ∀ {v v' : KV}, v ∈ l → v' ∈ l → v.key = v'.key → v = v' := by
  induction l with
  | nil => intro v v' h; simp at h
  | cons x l ih =>
    rw [List.map_cons, List.nodup_cons] at hn
    intro v v' h h' e
    rcases List.mem_cons.1 h with e1 | h1
    · rcases List.mem_cons.1 h' with e2 | h2
      · rw [e1, e2]
      · exact absurd (List.mem_map.2 ⟨v', h2, by rw [← e, e1]⟩) hn.1
    · rcases List.mem_cons.1 h' with e2 | h2
      · exact absurd (List.mem_map.2 ⟨v, h1, by rw [e, e2]⟩) hn.1
      · exact ih hn.2 h1 h2 e

theorem mem_view {M : RM} {k : Nat} (hk : k < M.keys.length) (hon : M.keys[k].on = true) : M.keys[k].kv ∈ M.view :=
  List.mem_map.2 ⟨M.keys[k], List.mem_filter.2 ⟨List.getElem_mem hk, hon⟩, rfl⟩

theorem RM.on_lt {M : RM} {k : Nat} (h : (M.key k).is ≠ 3) : k < M.keys.length := by
  apply Nat.lt_of_not_le
  intro hl
  apply h
  simp [RM.key, List.getD, List.getElem?_eq_none hl, noKey]

theorem RKey.on_iff {r : RKey} : r.on = true ↔ r.is ≠ 3 := by simp [RKey.on]

/-- The places of keys that are not over are told by connection and Id. -/
theorem RM.idx {M : RM} (hn : (M.view.map KV.key).Nodup) {j k : Nat} (hj : (M.key j).is ≠ 3) (hk : (M.key k).is ≠ 3) (hc : (M.key j).conn = (M.key k).conn) (hi : (M.key j).id = (M.key k).id) : j = k := by
  have lj := RM.on_lt hj
  have lk := RM.on_lt hk
  rw [M.key_eq lj] at hj hc hi
  rw [M.key_eq lk] at hk hc hi
  have hn' : ((M.keys.filter RKey.on).map (fun r => r.kv.key)).Nodup := by
    have : (fun r : RKey => r.kv.key) = KV.key ∘ RKey.kv := rfl
    rw [this, ← List.map_map]; exact hn
  exact nodup_filter_map hn' lj lk (RKey.on_iff.2 hj) (RKey.on_iff.2 hk) (by show (_, _) = (_, _); rw [show M.keys[j].kv.conn = M.keys[j].conn from rfl, show M.keys[j].kv.id = M.keys[j].id from rfl, hc, hi]; rfl)

theorem RM.live_iff {M : RM} {s : Nat} : M.live s = true ↔ (M.slot s).st = 3 ∧ (M.key (M.slot s).key).is = 2 := by
  simp [RM.live]

theorem slotFrom_none {m : PM} {c i : Int} : ∀ {n k : Nat}, m.slotFrom c i k n = none → ∀ s, k ≤ s → s < k + n → m.slotHas c i s = false
  | 0, _, _, s, h1, h2 => by omega
  | n + 1, k, h, s, h1, h2 => by
    simp only [PM.slotFrom] at h
    cases hr : m.slotHas c i k
    · rw [hr] at h
      by_cases e : s = k
      · rw [e]; exact hr
      · exact slotFrom_none h s (by omega) (by omega)
    · rw [hr] at h; simp at h

theorem slotFrom_yes {m : PM} {c i : Int} : ∀ {n k a : Nat}, m.slotFrom c i k n = some a → k ≤ a ∧ a < k + n ∧ m.slotHas c i a = true
  | 0, _, _, h => by simp [PM.slotFrom] at h
  | n + 1, k, a, h => by
    simp only [PM.slotFrom] at h
    cases hr : m.slotHas c i k
    · rw [hr] at h
      have := slotFrom_yes h
      exact ⟨by omega, by omega, this.2.2⟩
    · rw [hr] at h
      simp only [cond_true, Option.some.injEq] at h
      subst h
      exact ⟨Nat.le_refl _, by omega, hr⟩

theorem drop_slot {m : PM} {c i : Int} (hu : ∀ s t, s < 6 → t < 6 → m.slotHas c i s = true → m.slotHas c i t = true → s = t) (s : Nat) (hs : s < 6) :
    (m.drop c i).slot s = cond (m.slotHas c i s) (m.slot s).forget (m.slot s) := by
  unfold PM.drop
  cases hf : m.slotOf c i with
  | none =>
    have := slotFrom_none hf s (by omega) (by omega)
    rw [this]; rfl
  | some a =>
    obtain ⟨-, ha, hb⟩ := slotFrom_yes hf
    by_cases e : s = a
    · subst e; rw [hb]; simp [PM.forgetAt]
    · have : m.slotHas c i s = false := by
        cases hx : m.slotHas c i s
        · rfl
        · exact absurd (hu s a hs (by omega) hx hb) e
      rw [this]
      simp [PM.forgetAt, upd_other _ _ e]

theorem drop_same (m : PM) (c i : Int) : (m.drop c i).set = m.set ∧ (m.drop c i).time = m.time ∧ (m.drop c i).con = m.con := by
  unfold PM.drop
  cases m.slotOf c i <;> exact ⟨rfl, rfl, rfl⟩

theorem PM.waits_filter (l : List Req) (c i : Int) : ((withoutL l c i).filter fun r => r.stage == 1).map (fun r => (r.conn, r.id)) = ((l.filter fun r => r.stage == 1).map (fun r => (r.conn, r.id))).filter (fun p => !(p.1 == c && p.2 == i)) := by
  rw [List.filter_map, withoutL, List.filter_filter, List.filter_filter]
  congr 1
  apply List.filter_congr
  intro r _
  simp [isKey, Bool.and_comm]

section
variable {m : PM} {M : RM}

theorem Sim.has (h : Sim m M) {k : Nat} (hon : (M.key k).is ≠ 3) (s : Nat) (hs : s < 6) :
    m.slotHas (M.key k).conn (M.key k).id s = (M.live s && ((M.slot s).key == k)) := by
  unfold PM.slotHas
  rw [h.conn s hs, h.id s hs]
  have hk := RM.on_lt hon
  obtain ⟨c, hc, hcn⟩ := h.range k hk
  rw [← M.key_eq hk] at hcn
  cases hl : M.live s
  · simp only [RM.connOf, RM.idOf, hl, cond_false, Bool.false_and]
    rw [hcn]
    have : ((-1 : Int) == (c : Int)) = false := by rw [beq_eq_false_iff_ne]; omega
    rw [this]; rfl
  · simp only [RM.connOf, RM.idOf, hl, cond_true, Bool.true_and]
    rw [Bool.eq_iff_iff]
    simp only [Bool.and_eq_true, beq_iff_eq]
    constructor
    · rintro ⟨e1, e2⟩
      exact RM.idx h.nodup (by rw [(RM.live_iff.1 hl).2]; omega) hon e1 e2
    · intro e; rw [e]; exact ⟨rfl, rfl⟩

/-- Nothing has a key that there is not. -/
theorem Sim.hasnt (h : Sim m M) {c : Nat} {i : Int} (hno : ∀ j, (M.key j).is ≠ 3 → ¬ ((M.key j).conn = c ∧ (M.key j).id = i)) (s : Nat) (hs : s < 6) : m.slotHas c i s = false := by
  unfold PM.slotHas
  rw [h.conn s hs, h.id s hs]
  cases hl : M.live s
  · simp only [RM.connOf, RM.idOf, hl, cond_false]
    have : ((-1 : Int) == (c : Int)) = false := by rw [beq_eq_false_iff_ne]; omega
    rw [this]; rfl
  · simp only [RM.connOf, RM.idOf, hl, cond_true]
    have := hno (M.slot s).key (by rw [(RM.live_iff.1 hl).2]; omega)
    cases hx : ((M.key (M.slot s).key).conn == (c : Int) && (M.key (M.slot s).key).id == i)
    · rfl
    · simp only [Bool.and_eq_true, beq_iff_eq] at hx
      exact absurd hx this

/-- A record is sent. -/
theorem Sim.send (h : Sim m M) (c : Nat) (kd i : Int) (t : ByteArray) : Sim (m.sendB c (encB kd i t)) (M.send c (kd, i, t)) where
  set := h.set
  time := h.time
  op := by
    intro k hk
    simp only [PM.sendB, RM.send, upd]
    split
    · rename_i e; subst e; exact h.op _ hk
    · exact h.op k hk
  sent := by
    intro k hk
    simp only [PM.sendB, RM.send, upd]
    split
    · rename_i e
      subst e
      simp only []
      rw [h.sent _ hk, encs_append]
      simp [encs, nums, ba_nil]
    · exact h.sent k hk
  st := h.st
  old := h.old
  served := h.served
  since := h.since
  conn := h.conn
  id := h.id
  job := h.job
  view := h.view
  nodup := h.nodup
  waits := h.waits
  one := h.one
  qnd := h.qnd
  qis := h.qis
  range := h.range
  wf := ⟨h.wf.q, h.wf.s, h.wf.ch⟩
  busy := h.busy
  idle0 := h.idle0
end
end Go.Proofs.YtlafkpaljibonaaGreat

namespace Go.Proofs.YtlafkpaljibonaaGreat
open Go.RowKit

section
variable {m : PM} {M : RM}

theorem RM.set_key (M : RM) {k : Nat} (hk : k < M.keys.length) (x : RKey) (j : Nat) : ({ M with keys := M.keys.set k x } : RM).key j = if j = k then x else M.key j := by
  rw [RM.key_set]
  by_cases e : j = k
  · subst e; simp [hk]
  · rw [if_neg e, if_neg (fun h => e h.1.symm)]

theorem RM.over_key (M : RM) {k : Nat} (hk : k < M.keys.length) (j : Nat) : (M.over k).key j = if j = k then { M.key k with is := 3 } else M.key j := RM.set_key M hk _ j

theorem RM.over_live (M : RM) {k : Nat} (hk : k < M.keys.length) (s : Nat) : (M.over k).live s = (M.live s && !((M.slot s).key == k)) := by
  unfold RM.live
  rw [show (M.over k).slot s = M.slot s from rfl, RM.over_key M hk]
  by_cases e : (M.slot s).key = k
  · simp [e]
  · simp [e]

theorem filter_over {M : RM} (hn : (M.view.map KV.key).Nodup) {k : Nat} (hon : (M.key k).is ≠ 3) (l : List Nat) :
    (l.filter fun j => (M.key j).is == 1 && !(j == k)) = (l.filter fun j => (M.key j).is == 1).filter fun j => !((M.key j).conn == (M.key k).conn && (M.key j).id == (M.key k).id) := by
  rw [List.filter_filter]
  apply List.filter_congr
  intro j _
  cases h1 : ((M.key j).is == 1)
  · simp
  · simp only [Bool.true_and, Bool.and_true]
    congr 1
    rw [Bool.eq_iff_iff]
    simp only [beq_iff_eq, Bool.and_eq_true]
    constructor
    · intro e; rw [e]; exact ⟨rfl, rfl⟩
    · rintro ⟨e1, e2⟩
      simp only [beq_iff_eq] at h1
      exact RM.idx hn (by rw [h1]; omega) hon e1 e2

theorem PM.waits_drop (m : PM) (c i : Int) : (m.drop c i).waits = m.waits.filter (fun p => !(p.1 == c && p.2 == i)) := by
  unfold PM.waits
  rw [drop_req, PM.waits_filter]

theorem PM.view_drop (m : PM) (c i : Int) : (m.drop c i).view = m.view.filter (fun v => !v.isK c i) := by
  unfold PM.view
  rw [drop_req, req_without]

theorem RM.waits_over {M : RM} (hn : (M.view.map KV.key).Nodup) {k : Nat} (hon : (M.key k).is ≠ 3) : (M.over k).waits = M.waits.filter (fun p => !(p.1 == (M.key k).conn && p.2 == (M.key k).id)) := by
  have hk := RM.on_lt hon
  unfold RM.waits RM.back
  have e1 : ((M.over k).queue.filter fun j => ((M.over k).key j).is == 1) = M.queue.filter fun j => (M.key j).is == 1 && !(j == k) := by
    apply List.filter_congr
    intro j _
    rw [RM.over_key M hk]
    by_cases e : j = k
    · simp [e]
    · simp [e]
  rw [e1, List.filter_map, filter_over hn hon]
  apply List.map_congr_left
  intro j hj
  have hjk : j ≠ k := by
    rintro rfl
    have := (List.mem_filter.1 hj).2
    simp at this
  rw [RM.over_key M hk, if_neg hjk]

theorem RM.view_over {M : RM} (hn : (M.view.map KV.key).Nodup) {k : Nat} (hon : (M.key k).is ≠ 3) : (M.over k).view = M.view.filter (fun v => !v.isK (M.key k).conn (M.key k).id) := by
  have hk := RM.on_lt hon
  have e := M.key_eq hk
  have := viewL_set M.keys k hk { M.key k with is := 3 } (by rw [RKey.on_iff, ← e]; exact hon) (by rw [e]) (by rw [e]) hn
  unfold RM.view RM.over
  rw [this]
  simp [RKey.on]

theorem perm_nodup {l l' : List KV} (h : l.Perm l') (hn : (l'.map KV.key).Nodup) : (l.map KV.key).Nodup := (h.map KV.key).nodup_iff.2 hn

theorem nodup_filter {l : List KV} (p : KV → Bool) (hn : (l.map KV.key).Nodup) : ((l.filter p).map KV.key).Nodup := List.Nodup.sublist (List.Sublist.map _ List.filter_sublist) hn

/-- A key is no more. -/
theorem Sim.over (h : Sim m M) {k : Nat} (hon : (M.key k).is ≠ 3) : Sim (m.drop (M.key k).conn (M.key k).id) (M.over k) := by
  have hk := RM.on_lt hon
  obtain ⟨d1, d2, d3⟩ := drop_same m (M.key k).conn (M.key k).id
  have hu : ∀ s t, s < 6 → t < 6 → m.slotHas (M.key k).conn (M.key k).id s = true → m.slotHas (M.key k).conn (M.key k).id t = true → s = t := by
    intro s t hs ht a b
    rw [h.has hon s hs] at a
    rw [h.has hon t ht] at b
    simp only [Bool.and_eq_true, beq_iff_eq] at a b
    exact h.one s t hs ht a.1 b.1 (a.2.trans b.2.symm)
  have hsl : ∀ s, s < 6 → (m.drop (M.key k).conn (M.key k).id).slot s = cond (M.live s && ((M.slot s).key == k)) (m.slot s).forget (m.slot s) := fun s hs => by
    rw [drop_slot hu s hs, h.has hon s hs]
  have hfld : ∀ s, s < 6 → ((m.drop (M.key k).conn (M.key k).id).slot s).st = (m.slot s).st ∧ ((m.drop (M.key k).conn (M.key k).id).slot s).old = (m.slot s).old ∧ ((m.drop (M.key k).conn (M.key k).id).slot s).served = (m.slot s).served ∧ ((m.drop (M.key k).conn (M.key k).id).slot s).since = (m.slot s).since ∧ ((m.drop (M.key k).conn (M.key k).id).slot s).job = (m.slot s).job := by
    intro s hs
    rw [hsl s hs]
    cases (M.live s && ((M.slot s).key == k)) <;> exact ⟨rfl, rfl, rfl, rfl, rfl⟩
  refine ⟨d1.trans h.set, d2.trans h.time, ?_, ?_, ?_, ?_, ?_, ?_, ?_, ?_, ?_, ?_, ?_, ?_, ?_, h.qnd, ?_, ?_, ?_, ?_, h.idle0⟩
  · intro j hj; rw [d3]; exact h.op j hj
  · intro j hj; rw [d3]; exact h.sent j hj
  · intro s hs; rw [(hfld s hs).1]; exact h.st s hs
  · intro s hs; rw [(hfld s hs).2.1]; exact h.old s hs
  · intro s hs; rw [(hfld s hs).2.2.1]; exact h.served s hs
  · intro s hs; rw [(hfld s hs).2.2.2.1]; exact h.since s hs
  · intro s hs
    rw [hsl s hs]
    unfold RM.connOf
    rw [RM.over_live M hk, show (M.over k).slot s = M.slot s from rfl, RM.over_key M hk]
    have hc := h.conn s hs
    unfold RM.connOf at hc
    cases hl : M.live s
    · rw [hl] at hc; simpa using hc
    · rw [hl] at hc
      by_cases e : (M.slot s).key = k
      · simp [e, PSlot.forget]
      · have e' : ((M.slot s).key == k) = false := by simpa using e
        simpa [e, e'] using hc
  · intro s hs
    rw [hsl s hs]
    unfold RM.idOf
    rw [RM.over_live M hk, show (M.over k).slot s = M.slot s from rfl, RM.over_key M hk]
    have hc := h.id s hs
    unfold RM.idOf at hc
    cases hl : M.live s
    · rw [hl] at hc; simpa using hc
    · rw [hl] at hc
      by_cases e : (M.slot s).key = k
      · simp [e, PSlot.forget]
      · have e' : ((M.slot s).key == k) = false := by simpa using e
        simpa [e, e'] using hc
  · intro s hs hst
    rw [(hfld s hs).2.2.2.2, show (M.over k).slot s = M.slot s from rfl, RM.over_key M hk, h.job s hs hst]
    by_cases e : (M.slot s).key = k
    · simp [e]
    · simp [e]
  · rw [PM.view_drop, RM.view_over h.nodup hon]
    exact h.view.filter _
  · rw [RM.view_over h.nodup hon]
    exact nodup_filter _ h.nodup
  · rw [PM.waits_drop, RM.waits_over h.nodup hon, h.waits]
  · intro j t hj ht a b e
    rw [RM.over_live M hk] at a b
    simp only [Bool.and_eq_true] at a b
    exact h.one j t hj ht a.1 b.1 e
  · intro i hi
    rw [RM.over_key M hk]
    by_cases e : i = k
    · simp [e]
    · simp only [e, if_false]; exact h.qis i hi
  · intro i hi
    simp only [RM.over, List.length_set] at hi
    obtain ⟨c, hc, e⟩ := h.range i hi
    refine ⟨c, hc, ?_⟩
    simp only [RM.over, List.getElem_set]
    split
    · rename_i e'
      subst e'
      rw [M.key_eq hk]; exact e
    · exact e
  · exact ⟨fun i hi => by have := h.wf.q i hi; simpa [RM.over] using this, fun s hs e => by have := h.wf.s s hs e; simpa [RM.over] using this, h.wf.ch⟩
  · intro s hs e
    rw [show (M.over k).slot s = M.slot s from rfl, RM.over_key M hk]
    by_cases e' : (M.slot s).key = k
    · simp [e']
    · simp only [e', if_false]; exact h.busy s hs e

/-- A key ends with a status. -/
theorem Sim.endKey (h : Sim m M) {k : Nat} (hon : (M.key k).is ≠ 3) (st : Int) : Sim (m.endKey (M.key k).conn.toNat (M.key k).id st) (M.endKey k st) := by
  have hk := RM.on_lt hon
  obtain ⟨c, hc, e⟩ := h.range k hk
  rw [← M.key_eq hk] at e
  have h1 := h.send c 3 (M.key k).id (strOfNums [st])
  have h2 := h1.over (k := k) hon
  unfold PM.endKey RM.endKey
  rw [e]
  simp only [Int.toNat_natCast]
  have e2 : ((M.send c (3, (M.key k).id, strOfNums [st])).key k).conn = c := e
  rw [e2] at h2
  exact h2

end
end Go.Proofs.YtlafkpaljibonaaGreat

namespace Go.Proofs.YtlafkpaljibonaaGreat
open Go.RowKit

theorem findFrom_none (c i : Int) : ∀ (l : List Req) (k : Nat), findFrom c i l k = none → ∀ r ∈ l, isKey c i r = false
  | [], _, _, r, hr => by simp at hr
  | x :: l, k, h, r, hr => by
    have h' : cond (isKey c i x) (some k) (findFrom c i l (k + 1)) = none := h
    cases hx : isKey c i x
    · rw [hx] at h'
      rcases List.mem_cons.1 hr with e | e
      · rw [e]; exact hx
      · exact findFrom_none c i l (k + 1) h' r e
    · rw [hx] at h'; simp at h'

theorem rfindFrom_none (c i : Int) : ∀ (l : List RKey) (k : Nat), rfindFrom c i l k = none → ∀ r ∈ l, ¬ (r.conn = c ∧ r.id = i ∧ r.is ≠ 3)
  | [], _, _, r, hr => by simp at hr
  | x :: l, k, h, r, hr => by
    have h' : cond (x.conn == c && x.id == i && !(x.is == 3)) (some k) (rfindFrom c i l (k + 1)) = none := h
    cases hx : (x.conn == c && x.id == i && !(x.is == 3))
    · rw [hx] at h'
      rcases List.mem_cons.1 hr with e | e
      · rw [e]
        rintro ⟨a1, a2, a3⟩
        simp [a1, a2, a3] at hx
      · exact rfindFrom_none c i l (k + 1) h' r e
    · rw [hx] at h'; simp at h'

theorem RM.find_none {M : RM} {c i : Int} (h : M.find c i = none) : ∀ j, (M.key j).is ≠ 3 → ¬ ((M.key j).conn = c ∧ (M.key j).id = i) := by
  intro j hj hc
  have hl := RM.on_lt hj
  rw [M.key_eq hl] at hj hc
  exact rfindFrom_none c i M.keys 0 h M.keys[j] (List.getElem_mem hl) ⟨hc.1, hc.2, hj⟩

section
variable {m : PM} {M : RM}

theorem Sim.find_none (h : Sim m M) {c i : Int} (hf : M.find c i = none) : m.find c i = none := by
  cases hm : m.find c i with
  | none => rfl
  | some a =>
    exfalso
    obtain ⟨_, hl, hk⟩ := findFrom_some c i m.req 0 a hm
    simp only [Nat.sub_zero] at hl hk
    have hv : m.req[a].kv ∈ M.view := h.view.mem_iff.1 (List.mem_map.2 ⟨_, List.getElem_mem hl, rfl⟩)
    obtain ⟨r, hr, e⟩ := List.mem_map.1 hv
    obtain ⟨hr1, hr2⟩ := List.mem_filter.1 hr
    simp only [isKey, Bool.and_eq_true, beq_iff_eq] at hk
    have e1 : r.kv.conn = m.req[a].kv.conn := by rw [e]
    have e2 : r.kv.id = m.req[a].kv.id := by rw [e]
    exact rfindFrom_none c i M.keys 0 hf r hr1 ⟨e1.trans hk.1, e2.trans hk.2, RKey.on_iff.1 hr2⟩

theorem Sim.find_some (h : Sim m M) {c i : Int} {k : Nat} (hf : M.find c i = some k) :
    (M.key k).is ≠ 3 ∧ (M.key k).conn = c ∧ (M.key k).id = i ∧ ∃ a, ∃ ha : a < m.req.length, m.find c i = some a ∧ m.req[a].kv = (M.key k).kv := by
  obtain ⟨hk, h1, h2, h3⟩ := RM.find_some hf
  rw [← M.key_eq hk] at h1 h2 h3
  refine ⟨h3, h1, h2, ?_⟩
  have hv : (M.key k).kv ∈ M.view := by rw [M.key_eq hk] at h3 ⊢; exact mem_view hk (RKey.on_iff.2 h3)
  cases hm : m.find c i with
  | none =>
    exfalso
    have hv' := h.view.mem_iff.2 hv
    obtain ⟨r, hr, e⟩ := List.mem_map.1 hv'
    have e1 : r.kv.conn = (M.key k).kv.conn := by rw [e]
    have e2 : r.kv.id = (M.key k).kv.id := by rw [e]
    have := findFrom_none c i m.req 0 hm r hr
    simp only [isKey, Bool.and_eq_false_iff, beq_eq_false_iff_ne] at this
    rcases this with x | x
    · exact x (e1.trans h1)
    · exact x (e2.trans h2)
  | some a =>
    obtain ⟨_, hl, hk'⟩ := findFrom_some c i m.req 0 a hm
    simp only [Nat.sub_zero] at hl hk'
    refine ⟨a, hl, rfl, ?_⟩
    simp only [isKey, Bool.and_eq_true, beq_iff_eq] at hk'
    have hv2 : m.req[a].kv ∈ M.view := h.view.mem_iff.1 (List.mem_map.2 ⟨_, List.getElem_mem hl, rfl⟩)
    refine key_inj h.nodup hv2 hv ?_
    show (_, _) = (_, _)
    rw [show m.req[a].kv.conn = m.req[a].conn from rfl, show m.req[a].kv.id = m.req[a].id from rfl, hk'.1, hk'.2, show (M.key k).kv.conn = (M.key k).conn from rfl, show (M.key k).kv.id = (M.key k).id from rfl, h1, h2]

/-- Where there is no such key, dropping is nothing. -/
theorem Sim.drop_none (h : Sim m M) {c : Nat} {i : Int} (hno : ∀ j, (M.key j).is ≠ 3 → ¬ ((M.key j).conn = c ∧ (M.key j).id = i)) : m.drop c i = m := by
  have hs : m.slotOf c i = none := by
    cases hf : m.slotOf c i with
    | none => rfl
    | some a =>
      obtain ⟨-, ha, hb⟩ := slotFrom_yes hf
      rw [h.hasnt hno a (by omega)] at hb
      cases hb
  have hr : withoutL m.req c i = m.req := by
    apply List.filter_eq_self.2
    intro r hr
    cases hk : isKey c i r
    · rfl
    · exfalso
      have hv : r.kv ∈ M.view := h.view.mem_iff.1 (List.mem_map.2 ⟨r, hr, rfl⟩)
      obtain ⟨x, hx, e⟩ := List.mem_map.1 hv
      obtain ⟨hx1, hx2⟩ := List.mem_filter.1 hx
      obtain ⟨j, hj, rfl⟩ := List.getElem_of_mem hx1
      simp only [isKey, Bool.and_eq_true, beq_iff_eq] at hk
      have e1 : M.keys[j].kv.conn = r.kv.conn := by rw [e]
      have e2 : M.keys[j].kv.id = r.kv.id := by rw [e]
      refine hno j ?_ ?_
      · rw [M.key_eq hj]; exact RKey.on_iff.1 hx2
      · rw [M.key_eq hj]; exact ⟨e1.trans hk.1, e2.trans hk.2⟩
  unfold PM.drop
  rw [hs, hr]
  rfl

/-- Slots, where the keys that they name are as they were. -/
theorem RM.same_at {M M' : RM} (hwf : M.wf) (hs : M'.slot = M.slot) (hk : ∀ j, j < M.keys.length → M'.key j = M.key j) (s : Nat) (h6 : s < 6) :
    M'.live s = M.live s ∧ M'.connOf s = M.connOf s ∧ M'.idOf s = M.idOf s ∧ ((M.slot s).st = 3 → M'.key (M'.slot s).key = M.key (M.slot s).key) := by
  have e : (M.slot s).st = 3 → M'.key (M.slot s).key = M.key (M.slot s).key := fun h3 => hk _ (hwf.s s h6 h3)
  have hl : M'.live s = M.live s := by
    unfold RM.live
    rw [hs]
    cases h3 : ((M.slot s).st == 3)
    · rfl
    · rw [e (by simpa using h3)]
  refine ⟨hl, ?_, ?_, by rw [hs]; exact e⟩
  · unfold RM.connOf
    rw [hl, hs]
    cases hv : M.live s
    · rfl
    · rw [e (RM.live_iff.1 hv).1]
  · unfold RM.idOf
    rw [hl, hs]
    cases hv : M.live s
    · rfl
    · rw [e (RM.live_iff.1 hv).1]

theorem RM.push_key (M : RM) (x : RKey) (j : Nat) (hj : j < M.keys.length) : ({ M with keys := M.keys ++ [x] } : RM).key j = M.key j := by
  simp [RM.key, List.getD, List.getElem?_append_left hj]

theorem RM.waits_of {M M' : RM} (hwf : M.wf) (hq : M'.queue = M.queue) (hk : ∀ j, j < M.keys.length → M'.key j = M.key j) : M'.waits = M.waits := by
  unfold RM.waits RM.back
  rw [hq]
  have : (M.queue.filter fun i => (M'.key i).is == 1) = M.queue.filter fun i => (M.key i).is == 1 := by
    apply List.filter_congr
    intro i hi
    rw [hk i (hwf.q i hi)]
  rw [this]
  apply List.map_congr_left
  intro i hi
  rw [hk i (hwf.q i (List.mem_filter.1 hi).1)]

/-- A key more, in the document's list and, if it is not over, in the program's. -/
theorem Sim.push (h : Sim m M) (x : RKey) (l : List Req) (c : Nat) (hc : c < 4) (hx : x.conn = c) (hl : l.map Req.kv = viewL [x]) (hst : ∀ r ∈ l, (r.stage == 1) = false)
    (hno : x.is ≠ 3 → ∀ j, (M.key j).is ≠ 3 → ¬ ((M.key j).conn = x.conn ∧ (M.key j).id = x.id)) : Sim { m with req := m.req ++ l } { M with keys := M.keys ++ [x] } := by
  have hkk := RM.push_key M x
  have hsm := fun s (hs : s < 6) => RM.same_at (M' := { M with keys := M.keys ++ [x] }) h.wf rfl hkk s hs
  have hview : ({ M with keys := M.keys ++ [x] } : RM).view = M.view ++ viewL [x] := viewL_append _ _
  refine ⟨h.set, h.time, h.op, h.sent, h.st, h.old, h.served, h.since, ?_, ?_, ?_, ?_, ?_, ?_, ?_, h.qnd, ?_, ?_, ?_, ?_, h.idle0⟩
  · intro s hs; rw [(hsm s hs).2.1]; exact h.conn s hs
  · intro s hs; rw [(hsm s hs).2.2.1]; exact h.id s hs
  · intro s hs e; rw [(hsm s hs).2.2.2 e]; exact h.job s hs e
  · rw [hview]
    show ((m.req ++ l).map Req.kv).Perm _
    rw [List.map_append, hl]
    exact h.view.append_right _
  · rw [hview, List.map_append]
    by_cases hon : x.is = 3
    · have : viewL [x] = [] := by simp [viewL, RKey.on, hon]
      rw [this]
      simpa using h.nodup
    · have e : viewL [x] = [x.kv] := by
        have ho : x.on = true := RKey.on_iff.2 hon
        simp [viewL, List.filter_cons_of_pos ho]
      rw [e, List.map_singleton, List.nodup_append]
      refine ⟨h.nodup, by simp, ?_⟩
      intro a ha b hb
      rw [List.mem_singleton] at hb
      subst hb
      rintro rfl
      obtain ⟨v, hv, ev⟩ := List.mem_map.1 ha
      obtain ⟨y, hy, rfl⟩ := List.mem_map.1 hv
      obtain ⟨hy1, hy2⟩ := List.mem_filter.1 hy
      obtain ⟨j, hj, rfl⟩ := List.getElem_of_mem hy1
      have ev' : (M.keys[j].conn, M.keys[j].id) = (x.conn, x.id) := ev
      rw [Prod.mk.injEq] at ev'
      exact hno hon j (by rw [M.key_eq hj]; exact RKey.on_iff.1 hy2) (by rw [M.key_eq hj]; exact ev')
  · rw [RM.waits_of (M := M) (M' := { M with keys := M.keys ++ [x] }) h.wf rfl hkk, ← h.waits]
    unfold PM.waits
    have el : (l.filter fun r => r.stage == 1) = [] := List.filter_eq_nil_iff.2 (fun r hr => by simp [hst r hr])
    rw [List.filter_append, el, List.append_nil]
  · intro j t hj ht a b e
    rw [(hsm j hj).1] at a
    rw [(hsm t ht).1] at b
    exact h.one j t hj ht a b e
  · intro i hi
    rw [hkk i (h.wf.q i hi)]
    exact h.qis i hi
  · intro i hi
    simp only [List.length_append, List.length_singleton] at hi
    by_cases hl : i < M.keys.length
    · obtain ⟨c', hc', e⟩ := h.range i hl
      exact ⟨c', hc', by simp only [List.getElem_append_left hl]; exact e⟩
    · have : i = M.keys.length := by omega
      subst this
      exact ⟨c, hc, by simpa using hx⟩
  · exact ⟨fun i hi => by have := h.wf.q i hi; simp only [List.length_append, List.length_singleton]; omega, fun s hs e => by have := h.wf.s s hs e; simp only [List.length_append, List.length_singleton]; omega, h.wf.ch⟩
  · intro s hs e
    rw [(hsm s hs).2.2.2 e]
    exact h.busy s hs e

end
end Go.Proofs.YtlafkpaljibonaaGreat

namespace Go.Proofs.YtlafkpaljibonaaGreat
open Go.RowKit

section
variable {m : PM} {M : RM}

/-- Slots, where what they name is as it was. -/
theorem RM.same_st {M M' : RM} {s : Nat} (hs : M'.slot s = M.slot s) (hk : (M.slot s).st = 3 → M'.key (M.slot s).key = M.key (M.slot s).key) :
    M'.live s = M.live s ∧ M'.connOf s = M.connOf s ∧ M'.idOf s = M.idOf s := by
  have hl : M'.live s = M.live s := by
    unfold RM.live
    rw [hs]
    cases h3 : ((M.slot s).st == 3)
    · rfl
    · rw [hk (by simpa using h3)]
  refine ⟨hl, ?_, ?_⟩
  · unfold RM.connOf
    rw [hl, hs]
    cases hv : M.live s
    · rfl
    · rw [hk (RM.live_iff.1 hv).1]
  · unfold RM.idOf
    rw [hl, hs]
    cases hv : M.live s
    · rfl
    · rw [hk (RM.live_iff.1 hv).1]

theorem Sim.beginEnd (h : Sim m M) (n : Nat) (hn : n < 4) (i : Int) (hf : M.find n i = none) (st : Int) : Sim (m.endKey n i st) ((M.pushed n i).endKey M.keys.length st) := by
  have hno := RM.find_none hf
  have h1 := h.send n 3 i (strOfNums [st])
  have hd : (m.sendB n (encB 3 i (strOfNums [st]))).drop n i = m.sendB n (encB 3 i (strOfNums [st])) := h1.drop_none hno
  unfold PM.endKey
  rw [hd]
  have hk : (M.pushed n i).key M.keys.length = ⟨n, i, ⟨#[]⟩, 0⟩ := by simp [RM.key, RM.pushed, List.getD]
  have e : (M.pushed n i).endKey M.keys.length st = { M.send n (3, i, strOfNums [st]) with keys := M.keys ++ [⟨n, i, ⟨#[]⟩, 3⟩] } := by
    unfold RM.endKey RM.over
    rw [show ((M.pushed n i).send ((M.pushed n i).key M.keys.length).conn.toNat (3, ((M.pushed n i).key M.keys.length).id, strOfNums [st])).key M.keys.length = (M.pushed n i).key M.keys.length from rfl, hk]
    simp only [Int.toNat_natCast]
    simp [RM.send, RM.pushed]
  rw [e]
  have h2 := h1.push ⟨n, i, ⟨#[]⟩, 3⟩ [] n hn rfl (by simp [viewL, RKey.on]) (by simp) (fun hx => absurd rfl hx)
  rw [List.append_nil] at h2
  exact h2

theorem Sim.beginNew (h : Sim m M) (n : Nat) (hn : n < 4) (i : Int) (hf : M.find n i = none) : Sim { m with req := m.req ++ [newReq n i] } (M.pushed n i) := by
  have hno := RM.find_none hf
  exact h.push ⟨n, i, ⟨#[]⟩, 0⟩ [newReq n i] n hn rfl rfl (by intro r hr; rw [List.mem_singleton] at hr; subst hr; rfl) (fun _ => hno)

theorem heldL_eq (c : Int) : ∀ l : List RKey, heldL c l = (((viewL l).filter (fun v => v.conn == c)).length : Int)
  | [] => rfl
  | r :: l => by
    have ih := heldL_eq c l
    simp only [heldL, ih]
    cases ho : r.on
    · have hi : (r.is == 3) = true := by simpa [RKey.on] using ho
      have e : viewL (r :: l) = viewL l := by simp [viewL, ho]
      rw [e, hi]
      simp
    · have hi : (r.is == 3) = false := by simpa [RKey.on] using ho
      have e : viewL (r :: l) = r.kv :: viewL l := by simp [viewL, List.filter_cons_of_pos ho]
      rw [e, hi]
      cases hc : (r.conn == c)
      · have hc' : (r.kv.conn == c) = false := hc
        simp [hc']
      · have hc' : (r.kv.conn == c) = true := hc
        simp [hc']
        omega

theorem Sim.held (h : Sim m M) (c : Int) : M.held c = ((m.keysOf c).length : Int) := by
  unfold RM.held PM.keysOf
  rw [heldL_eq, List.length_map]
  have hp := (h.view.filter (fun v => v.conn == c)).length_eq
  have e : (m.view.filter (fun v => v.conn == c)).length = (m.req.filter (fun r => r.conn == c)).length := by
    unfold PM.view
    rw [List.filter_map, List.length_map]
    rfl
  rw [← e, hp]
  rfl

/-- What a busy slot names is no key that collects or waits. -/
theorem Sim.busy_ne (h : Sim m M) {k s : Nat} (hs : s < 6) (h3 : (M.slot s).st = 3) (h2 : (M.key k).is ≠ 2) (h4 : (M.key k).is ≠ 3) : (M.slot s).key ≠ k := by
  intro e
  have := h.busy s hs h3
  rw [e] at this
  rcases this with e | e
  · exact h2 e
  · exact h4 e

/-- Some Content more. -/
theorem Sim.addBody (h : Sim m M) {k a : Nat} (ha : a < m.req.length) (hkv : m.req[a].kv = (M.key k).kv) (h0 : (M.key k).is = 0) (c : ByteArray) :
    Sim { m with req := m.req.set a { m.req[a] with body := m.req[a].body ++ c } } (M.addBody k c) := by
  have hon : (M.key k).is ≠ 3 := by omega
  have hk := RM.on_lt hon
  have hkk : ∀ j, (M.addBody k c).key j = if j = k then { M.key k with body := (M.key k).body ++ c } else M.key j := fun j => RM.set_key M hk _ j
  have e1 : m.req[a].conn = (M.key k).conn := congrArg KV.conn hkv
  have e2 : m.req[a].id = (M.key k).id := congrArg KV.id hkv
  have e3 : m.req[a].stage = (M.key k).is := congrArg KV.is hkv
  have e4 : m.req[a].body = (M.key k).body := by
    have := congrArg KV.body hkv
    simpa [Req.kv, RKey.kv, h0] using this
  have hne : ∀ s, s < 6 → (M.slot s).st = 3 → (M.slot s).key ≠ k := fun s hs h3 => h.busy_ne hs h3 (by omega) hon
  have hsm : ∀ s, s < 6 → _ := fun s hs => RM.same_st (M := M) (M' := M.addBody k c) (s := s) rfl (fun h3 => by rw [hkk, if_neg (hne s hs h3)])
  have hkx : ({ M.key k with body := (M.key k).body ++ c } : RKey).kv = ({ m.req[a] with body := m.req[a].body ++ c } : Req).kv := by
    simp [Req.kv, RKey.kv, e1, e2, e3, e4, h0]
  have hvm : (M.addBody k c).view = M.view.map (fun v => if v.isK (M.key k).conn (M.key k).id then ({ m.req[a] with body := m.req[a].body ++ c } : Req).kv else v) := by
    have := viewL_set M.keys k hk { M.key k with body := (M.key k).body ++ c } (by rw [RKey.on_iff, ← M.key_eq hk]; exact hon) (by rw [M.key_eq hk]) (by rw [M.key_eq hk]) h.nodup
    unfold RM.view RM.addBody
    rw [this, if_pos (by simp [RKey.on, h0]), hkx]
  have hvp : ({ m with req := m.req.set a { m.req[a] with body := m.req[a].body ++ c } } : PM).view = m.view.map (fun v => if v.isK (M.key k).conn (M.key k).id then ({ m.req[a] with body := m.req[a].body ++ c } : Req).kv else v) := by
    have := req_set m.req a ha { m.req[a] with body := m.req[a].body ++ c } rfl rfl (perm_nodup h.view h.nodup)
    unfold PM.view
    rw [this]
    simp only [e1, e2]
  have hq : ∀ j ∈ M.queue, j ≠ k := fun j hj e => h.qis j hj (by rw [e]; exact h0)
  refine ⟨h.set, h.time, h.op, h.sent, h.st, h.old, h.served, h.since, ?_, ?_, ?_, ?_, ?_, ?_, ?_, h.qnd, ?_, ?_, ?_, ?_, h.idle0⟩
  · intro s hs; rw [(hsm s hs).2.1]; exact h.conn s hs
  · intro s hs; rw [(hsm s hs).2.2]; exact h.id s hs
  · intro s hs e
    rw [show (M.addBody k c).slot s = M.slot s from rfl] at e ⊢
    rw [hkk, if_neg (hne s hs e)]
    exact h.job s hs e
  · rw [hvm, hvp]; exact h.view.map _
  · rw [hvm, List.map_map]
    have : (KV.key ∘ fun v => if v.isK (M.key k).conn (M.key k).id then ({ m.req[a] with body := m.req[a].body ++ c } : Req).kv else v) = KV.key := by
      funext v
      show KV.key (if _ then _ else _) = _
      split
      · rename_i hv
        rw [KV.isK_iff] at hv
        rw [hv]
        show (_, _) = (_, _)
        rw [← e1, ← e2]; rfl
      · rfl
    rw [this]; exact h.nodup
  · have : (M.addBody k c).waits = M.waits := by
      unfold RM.waits RM.back
      rw [show (M.addBody k c).queue = M.queue from rfl]
      have e : (M.queue.filter fun i => ((M.addBody k c).key i).is == 1) = M.queue.filter fun i => (M.key i).is == 1 := by
        apply List.filter_congr
        intro i hi
        rw [hkk, if_neg (hq i hi)]
      rw [e]
      apply List.map_congr_left
      intro i hi
      rw [hkk, if_neg (hq i (List.mem_filter.1 hi).1)]
    rw [this, ← h.waits]
    unfold PM.waits
    have hst : (m.req.set a { m.req[a] with body := m.req[a].body ++ c }).filter (fun r => r.stage == 1) = m.req.filter (fun r => r.stage == 1) := by
      have gen : ∀ (l : List Req) (a : Nat) (ha : a < l.length) (x : Req), l[a].stage ≠ 1 → x.stage ≠ 1 → (l.set a x).filter (fun r => r.stage == 1) = l.filter (fun r => r.stage == 1) := by
        intro l
        induction l with
        | nil => intro a ha; simp at ha
        | cons y l ih =>
          intro a ha x h1 h2
          cases a with
          | zero =>
            have h1' : (y.stage == 1) = false := by simpa using h1
            have h2' : (x.stage == 1) = false := by simpa using h2
            simp [h1', h2']
          | succ a =>
            have := ih a (by simpa using ha) x (by simpa using h1) h2
            simp only [List.set_cons_succ, List.filter_cons, this]
      exact gen m.req a ha _ (by rw [e3, h0]; omega) (by show m.req[a].stage ≠ 1; rw [e3, h0]; omega)
    show List.map _ (List.filter _ (m.req.set a _)) = _
    rw [hst]
  · intro j t hj ht x y e
    rw [(hsm j hj).1] at x
    rw [(hsm t ht).1] at y
    exact h.one j t hj ht x y e
  · intro i hi
    rw [hkk, if_neg (hq i hi)]
    exact h.qis i hi
  · intro i hi
    simp only [RM.addBody, List.length_set] at hi
    obtain ⟨c', hc', e⟩ := h.range i hi
    refine ⟨c', hc', ?_⟩
    simp only [RM.addBody, List.getElem_set]
    split
    · rename_i e'; subst e'; rw [M.key_eq hk]; exact e
    · exact e
  · exact ⟨fun i hi => by have := h.wf.q i hi; simpa [RM.addBody] using this, fun s hs e => by have := h.wf.s s hs e; simpa [RM.addBody] using this, h.wf.ch⟩
  · intro s hs e
    rw [show (M.addBody k c).slot s = M.slot s from rfl, hkk, if_neg (hne s hs e)]
    exact h.busy s hs e

/-- A slot works at nothing from now on. -/
theorem Sim.becomes (h : Sim m M) {s : Nat} (hs : s < 6) (x : Int) (hx : x ≠ 3) : Sim (m.becomesAt s x) ((M.slotSt s x).slotSince s 0) := by
  have hsl : ∀ t, ((M.slotSt s x).slotSince s 0).slot t = if t = s then { M.slot s with st := x, since := 0 } else M.slot t := by
    intro t
    simp only [RM.slotSt, RM.slotSince, upd]
    split <;> simp_all
  have hpl : ∀ t, (m.becomesAt s x).slot t = if t = s then (m.slot s).becomes x else m.slot t := by
    intro t
    simp only [PM.becomesAt, upd]
  have hlv : ((M.slotSt s x).slotSince s 0).live s = false := by
    unfold RM.live
    rw [hsl, if_pos rfl]
    simp [hx]
  have hsm : ∀ t, t ≠ s → _ := fun t ht => RM.same_st (M := M) (M' := (M.slotSt s x).slotSince s 0) (s := t) (by rw [hsl, if_neg ht]) (fun _ => rfl)
  refine ⟨h.set, h.time, h.op, h.sent, ?_, ?_, ?_, ?_, ?_, ?_, ?_, h.view, h.nodup, h.waits, ?_, h.qnd, h.qis, h.range, ?_, ?_, ?_⟩
  · intro t ht
    rw [hsl, hpl]
    split
    · rfl
    · exact h.st t ht
  · intro t ht
    rw [hsl, hpl]
    split
    · exact h.old s hs
    · exact h.old t ht
  · intro t ht
    rw [hsl, hpl]
    split
    · exact h.served s hs
    · exact h.served t ht
  · intro t ht
    rw [hsl, hpl]
    split
    · rfl
    · exact h.since t ht
  · intro t ht
    rw [hpl]
    by_cases e : t = s
    · subst e
      rw [if_pos rfl]
      unfold RM.connOf
      rw [hlv]; rfl
    · rw [if_neg e, (hsm t e).2.1]; exact h.conn t ht
  · intro t ht
    rw [hpl]
    by_cases e : t = s
    · subst e
      rw [if_pos rfl]
      unfold RM.idOf
      rw [hlv]; rfl
    · rw [if_neg e, (hsm t e).2.2]; exact h.id t ht
  · intro t ht e3
    by_cases e : t = s
    · rw [hsl, if_pos e] at e3; exact absurd e3 hx
    · rw [hsl, if_neg e] at e3 ⊢
      rw [hpl, if_neg e]
      exact h.job t ht e3
  · intro j t hj ht a b e
    by_cases ej : j = s
    · subst ej; rw [hlv] at a; cases a
    by_cases et : t = s
    · subst et; rw [hlv] at b; cases b
    rw [(hsm j ej).1] at a
    rw [(hsm t et).1] at b
    rw [hsl, hsl, if_neg ej, if_neg et] at e
    exact h.one j t hj ht a b e
  · refine ⟨h.wf.q, ?_, h.wf.ch⟩
    intro t ht e3
    by_cases e : t = s
    · rw [hsl, if_pos e] at e3; exact absurd e3 hx
    · rw [hsl, if_neg e] at e3 ⊢
      exact h.wf.s t ht e3
  · intro t ht e3
    by_cases e : t = s
    · rw [hsl, if_pos e] at e3; exact absurd e3 hx
    · rw [hsl, if_neg e] at e3 ⊢
      exact h.busy t ht e3
  · intro t ht e3
    by_cases e : t = s
    · rw [hsl, if_pos e]
    · rw [hsl, if_neg e] at e3 ⊢
      exact h.idle0 t ht e3

theorem RM.kill_eq (M : RM) (s : Nat) : M.kill s = (M.slotSt s 4).slotSince s 0 := by
  simp only [RM.kill, RM.slotSt, RM.slotSince, upd_same, RM.mk.injEq, true_and, and_true]
  funext t
  simp only [upd]
  split <;> rfl

theorem Sim.kill (h : Sim m M) {s : Nat} (hs : s < 6) : Sim (m.kill s) (M.kill s) := by
  rw [RM.kill_eq]; exact h.becomes hs 4 (by omega)

end
end Go.Proofs.YtlafkpaljibonaaGreat
