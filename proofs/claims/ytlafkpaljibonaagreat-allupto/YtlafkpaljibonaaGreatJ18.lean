import Derived.Test.YtlafkpaljibonaaGreatJ16
import Derived.Test.YtlafkpaljibonaaGreatJ17
namespace Go.Proofs.YtlafkpaljibonaaGreat
open Go.RowKit

theorem rdec_stop (c : Bool) (s : ByteArray) : ∀ (f i : Nat), s.size - i < f → (rdec c f s i).2.2 = false → rcode c (left s (rdec c f s i).2.1) = 0
  | 0, _, h, _ => by omega
  | f + 1, i, h, hb => by
    rcases rcode_cases c (left s i) with e | e | e
    · rw [rdec_zero e]; exact e
    · rw [rdec_one e] at hb; simp at hb
    · obtain ⟨h1, h2, -⟩ := rcode_two e
      rw [left_size] at h2
      rw [rdec_two e] at hb ⊢
      exact rdec_stop c s f (i + sizeT (left s i)) (by omega) hb

theorem new_recs (r s : ByteArray) (h0 : rcode true r = 0) : (rdL true (r ++ s)).length ≤ s.size := by
  obtain ⟨pL, -, -⟩ := rd_parts true (r ++ s)
  rw [pL]
  have el : left (r ++ s) 0 = r ++ s := by rw [left_app r s (Nat.zero_le _)]; congr 1; unfold left; simp
  rcases rcode_cases true (left (r ++ s) 0) with e | e | e
  · rw [rdec_zero e]; simp
  · rw [rdec_one e]; simp
  · obtain ⟨h1, h2, hst, hl, h8⟩ := rcode_two e
    have hsz : r.size < sizeT (left (r ++ s) 0) := by
      rw [el] at hst hl h8 ⊢
      by_cases hr : 8 ≤ (r.size : Int)
      · obtain ⟨-, -, e3, e4, -⟩ := heads_app r s hr
        unfold rcode at h0
        rw [stop_app true r s hr] at hst
        rw [if_neg (by omega), hst] at h0
        simp only [Bool.false_eq_true, if_false] at h0
        have hd := hd_bd r
        unfold sizeT
        rw [e3, e4]
        by_cases hlt : (r.size : Int) < 8 + hLen r + hPad r
        · omega
        · rw [if_neg hlt] at h0; cases h0
      · rw [el] at h1
        omega
    rw [rdec_two e]
    have := (rdec_recs (r ++ s) (r ++ s).size (0 + sizeT (left (r ++ s) 0))).2
    rw [ByteArray.size_append] at this ⊢
    rw [left_size, ByteArray.size_append] at h2
    simp only [List.length_cons]
    omega

theorem RM.good.closed {M : RM} {K Q S : Nat} (h : M.good K Q S) (k : Nat) : (M.close k).good K Q S := by
  have hkey : ∀ i, (M.close k).key i = if i < M.keys.length then overIf k (M.key i) else noKey := by
    intro i
    unfold RM.key RM.close
    simp only [List.getD, List.getElem?_map]
    by_cases hi : i < M.keys.length
    · simp [hi]
    · simp [hi]
  refine ⟨⟨fun i hi => ?_, fun s hs e => ?_, h.wf.ch⟩, ?_, ?_, h.queue, ?_⟩
  · have := h.wf.q i hi
    simpa [RM.close] using this
  · have := h.wf.s s hs e
    simpa [RM.close] using this
  · intro i
    rw [hkey]
    split
    · unfold overIf
      cases ((M.key i).conn == (k : Int))
      · exact h.fit i
      · left; rfl
    · left; rfl
  · have := h.keys
    simpa [RM.close] using this
  · intro n
    have := h.sent n
    simp only [RM.close, upd]
    split
    · rename_i e; rw [← e]; exact this
    · exact this

theorem RM.good.feedL (k : Nat) : ∀ (l : List Rec) {M : RM} {K Q S : Nat} (i : Nat), M.good K Q S → (RM.feedL k l M i).1.good (K + l.length) (Q + l.length) (S + l.length)
  | [], _, _, _, _, _, h => h
  | r :: l, M, K, Q, S, i, h => by
    have e : RM.feedL k (r :: l) M i = cond (r.1 == 1 && (M.find k r.2.1).isSome) (M.close k, true) (RM.feedL k l (M.one k i r) (i + 1)) := rfl
    rw [e]
    simp only [List.length_cons]
    cases (r.1 == 1 && (M.find k r.2.1).isSome)
    · exact (RM.good.feedL k l (i + 1) (h.one k i r)).mono (by omega) (by omega) (by omega)
    · exact (h.closed k).mono (by omega) (by omega) (by omega)

theorem RM.good.send {M : RM} {K Q S : Nat} (h : M.good K Q S) (k : Nat) (r : Rec) : (M.send k r).good K Q (S + 1) := by
  refine ⟨⟨h.wf.q, h.wf.s, h.wf.ch⟩, h.fit, h.keys, h.queue, ?_⟩
  intro n
  have := h.sent n
  simp only [RM.send, upd]
  split
  · rename_i e; subst e; simp only [List.length_append, List.length_singleton]; omega
  · omega

theorem RM.good.outN (c : Nat) (i : Int) : ∀ (f : Nat) {M : RM} {K Q S : Nat} (t : ByteArray), M.good K Q S → (RM.outN c i f M t).good K Q (S + f)
  | 0, _, _, _, _, _, h => h
  | f + 1, M, K, Q, S, t, h => by
    unfold RM.outN
    split
    · exact h.mono (by omega) (by omega) (by omega)
    · exact (RM.good.outN c i f _ (h.send c _)).mono (by omega) (by omega) (by omega)

theorem RM.good.slots {M M' : RM} {K Q S : Nat} (h : M.good K Q S) (hwf : M'.wf) (h1 : M'.keys = M.keys) (h2 : M'.queue = M.queue) (h3 : M'.line = M.line) : M'.good K Q S := by
  refine ⟨hwf, ?_, by rw [h1]; exact h.keys, by rw [h2]; exact h.queue, by rw [h3]; exact h.sent⟩
  intro i
  have : M'.key i = M.key i := by unfold RM.key; rw [h1]
  rw [this]; exact h.fit i

theorem RM.good.endOf {M : RM} {K Q S : Nat} (h : M.good K Q S) (k : Nat) (st : Int) : (M.endOf k st).good K Q (S + 1) := by
  have hwf := RM.wf_endOf h.wf k st
  unfold RM.endOf at *
  cases hl : M.live k
  · exact h.mono (by omega) (by omega) (by omega)
  · rw [hl] at hwf
    have hs := h.send (M.key (M.slot k).key).conn.toNat (3, (M.key (M.slot k).key).id, strOfNums [st])
    refine ⟨hwf, RM.fit_endKey _ _ (fun i _ => h.fit i), ?_, h.queue, hs.sent⟩
    have := h.keys
    simpa [RM.endKey, RM.over, RM.send] using this

/-- The two beside one another, with what they have grown to. -/
structure Ok (m : PM) (M : RM) (B : Nat) : Prop where
  sim : Sim m M
  fed : Fed m M
  good : M.good B B B
  come : ∀ k, (M.line k).come.size ≤ B
  rest : ∀ k, k < 4 → (m.con k).rest.size ≤ B

section
variable {m : PM} {M : RM} {B : Nat}

theorem Ok.small (h : Ok m M B) : m.small B (208 * B) := by
  refine ⟨?_, ?_, ?_⟩
  · have e : m.req.length = M.view.length := by rw [← h.sim.view.length_eq]; simp [PM.view]
    have : M.view.length ≤ M.keys.length := by
      unfold RM.view viewL
      rw [List.length_map]
      exact List.length_filter_le _ _
    have := h.good.keys
    omega
  · intro k hk
    rw [h.sim.sent k hk, nums_length]
    have h1 := encs_size (M.line k).sent
    have h2 := h.good.sent k
    have : (M.line k).sent.length * 208 ≤ B * 208 := Nat.mul_le_mul_right _ h2
    omega
  · intro r hr
    have hv : r.kv ∈ M.view := h.sim.view.mem_iff.1 (List.mem_map.2 ⟨r, hr, rfl⟩)
    obtain ⟨y, hy, e⟩ := List.mem_map.1 hv
    obtain ⟨hy1, hy2⟩ := List.mem_filter.1 hy
    obtain ⟨j, hj, rfl⟩ := List.getElem_of_mem hy1
    have hb : cond (M.keys[j].is == 2) ⟨#[]⟩ M.keys[j].body = r.body := congrArg KV.body e
    rw [← hb]
    cases (M.keys[j].is == 2)
    · have := h.good.fit j
      rw [M.key_eq hj] at this
      rcases this with x | x
      · exact absurd x (RKey.on_iff.1 hy2)
      · simp only [cond_false]; omega
    · exact Nat.zero_le _

theorem Ok.mono (h : Ok m M B) {B' : Nat} (hb : B ≤ B') : Ok m M B' :=
  ⟨h.sim, h.fed, h.good.mono hb hb hb, fun k => Nat.le_trans (h.come k) hb, fun k hk => Nat.le_trans (h.rest k hk) hb⟩

theorem Ok.connect (h : Ok m M B) (k : Nat) : Ok (m.connect k) (M.connect k) B := by
  refine ⟨h.sim.connect k, h.fed.connect k, ⟨⟨h.good.wf.q, h.good.wf.s, h.good.wf.ch⟩, h.good.fit, h.good.keys, h.good.queue, ?_⟩, ?_, ?_⟩
  · intro n
    simp only [RM.connect, upd]
    split
    · exact Nat.zero_le _
    · exact h.good.sent n
  · intro n
    simp only [RM.connect, upd]
    split
    · exact Nat.zero_le _
    · exact h.come n
  · intro n hn
    simp only [PM.connect, upd]
    split
    · exact Nat.zero_le _
    · exact h.rest n hn

theorem Ok.close (h : Ok m M B) (k : Nat) : Ok (m.close k) (M.close k) B := by
  refine ⟨h.sim.close k, h.fed.close k, h.good.closed k, ?_, ?_⟩
  · intro n
    have := h.come n
    simp only [RM.close, upd]
    split
    · rename_i e; rw [← e]; exact this
    · exact this
  · intro n hn
    rw [close_con]
    split
    · exact Nat.zero_le _
    · exact h.rest n hn

theorem Ok.feed (h : Ok m M B) {k : Nat} (hk : k < 4) (ho : (m.con k).op = true) (s : ByteArray) : Ok (m.feed k s) (M.feed k s) (B + s.size) := by
  obtain ⟨f1, f2, f3, f4, f5⟩ := Fed.feed h.sim h.fed hk ho s
  obtain ⟨h1, h2, h3⟩ := h.fed k hk ho
  obtain ⟨r1, -, -, -⟩ := read_on (M.line k).come s h3
  refine ⟨f1, f2, ?_, ?_, ?_⟩
  · have hd : (rdL true ((M.line k).come ++ s)).drop (M.line k).took = rdL true ((m.con k).rest ++ s) := by rw [r1, h1, h2, List.drop_left]
    have hr0 : rcode true (m.con k).rest = 0 := by
      rw [h2]
      obtain ⟨-, pN, pB⟩ := rd_parts true (M.line k).come
      rw [pN]
      rw [pB] at h3
      exact rdec_stop true _ _ 0 (by omega) h3
    have hn := new_recs (m.con k).rest s hr0
    unfold RM.feed
    rw [hd]
    have hg := RM.good.feedL k (rdL true ((m.con k).rest ++ s)) (M.line k).took (h.good.came k ((M.line k).come ++ s))
    have hg2 := hg.mono (K' := B + s.size) (Q' := B + s.size) (S' := B + s.size) (by omega) (by omega) (by omega)
    cases (!(RM.feedL k (rdL true ((m.con k).rest ++ s)) (M.cameAt k ((M.line k).come ++ s)) (M.line k).took).2 && rdB true ((M.line k).come ++ s))
    · exact hg2
    · exact hg2.closed k
  · intro j
    rw [f5 j]
    have := h.come j
    have := h.come k
    split
    · rw [ByteArray.size_append]; omega
    · omega
  · intro j hj
    by_cases e : j = k
    · subst e
      have := h.rest j hj
      omega
    · rw [f3 j e]
      have := h.rest j hj
      omega

/-- An event that leaves what has come as it is. -/
theorem Ok.of (h : Ok m M B) {m' : PM} {M' : RM} {B' : Nat} (hb : B ≤ B') (hs : Sim m' M') (h1 : ConSame m m') (h2 : LineSame M M') (hg : M'.good B' B' B') : Ok m' M' B' :=
  ⟨hs, h.fed.of h1 h2, hg, fun k => by rw [(h2 k).1]; exact Nat.le_trans (h.come k) hb, fun k hk => by rw [(h1 k).2]; exact Nat.le_trans (h.rest k hk) hb⟩

theorem LineSame.settle (M : RM) : LineSame M M.settle := LineSame.of_eq (settle_line M)

theorem Ok.spawned (h : Ok m M B) {k : Nat} (hk : k < 6) (hst : (M.slot k).st = 1) : Ok (m.spawned k) (M.spawned k) B := by
  obtain ⟨-, e2, -, e4, e5⟩ := M.wakes_same k
  refine h.of (Nat.le_refl _) (h.sim.spawned hk hst) ?_ ?_ ?_
  · refine ConSame.trans ?_ (ConSame.settle _)
    cases (m.slot k).old <;> exact ConSame.refl _
  · exact (LineSame.of_eq e5).trans (LineSame.settle _)
  · exact (h.good.slots (RM.wf_wakes h.good.wf k) e4 e2 e5).settle

theorem Ok.outputs (h : Ok m M B) {k : Nat} (hk : k < 6) (s : ByteArray) : Ok (m.outputs k s) (M.outputs k s) (B + s.size) := by
  refine h.of (by omega) (h.sim.outputs hk s) ?_ ?_ ?_
  · refine ConSame.trans ?_ (ConSame.settle _)
    cases ((m.slot k).conn != -1)
    · exact ConSame.refl _
    · exact ConSame.outN _ _ _ _ _
  · refine LineSame.trans ?_ (LineSame.settle _)
    unfold RM.putsOut
    cases M.live k
    · exact LineSame.refl _
    · exact LineSame.outN _ _ _ _ _
  · unfold RM.outputs
    apply RM.good.settle
    unfold RM.putsOut
    cases M.live k
    · exact h.good.mono (by omega) (by omega) (by omega)
    · exact (RM.good.outN _ _ _ _ h.good).mono (by omega) (by omega) (by omega)

theorem Ok.finished (h : Ok m M B) {k : Nat} (hk : k < 6) : Ok (m.finished k) (M.finished k) (B + 1) := by
  obtain ⟨-, e2, -, e4, e5⟩ := (M.endOf k 0).retires_same k
  refine h.of (by omega) (h.sim.finished hk) ?_ ?_ ?_
  · refine ConSame.trans ((ConSame.endKeyOf m k 0).trans ?_) (ConSame.settle _)
    unfold PM.retires
    cases (m.endKeyOf k 0).mustGo k <;> exact ConSame.refl _
  · exact ((LineSame.endOf M k 0).trans (LineSame.of_eq e5)).trans (LineSame.settle _)
  · exact ((((h.good.endOf k 0).mono (by omega) (by omega) (by omega)).slots (RM.wf_retires (RM.wf_endOf h.good.wf k 0) k) e4 e2 e5)).settle

theorem Ok.died (h : Ok m M B) {k : Nat} (hk : k < 6) : Ok (m.died k) (M.died k) (B + 1) := by
  refine h.of (by omega) (h.sim.died hk) ?_ ?_ ?_
  · exact ((ConSame.endKeyOf m k 1).trans (ConSame.refl _)).trans (ConSame.settle _)
  · exact ((LineSame.endOf M k 1).trans (LineSame.refl _)).trans (LineSame.settle _)
  · exact (((h.good.endOf k 1).mono (by omega) (by omega) (by omega)).slots (RM.wf_empties (RM.wf_endOf h.good.wf k 1) k) rfl rfl rfl).settle

/-- What is shown of both is the same. -/
theorem Ok.same (h : Ok m M B) : Same m M := by
  have hs := h.sim
  refine ⟨?_, ?_, ?_, ?_, ?_, hs.waits.symm, hs.time⟩
  · intro n
    unfold PM.open_ RM.open_
    rcases isC_cases n with e | ⟨e, k, hk, rfl⟩
    · rw [e]; rfl
    · rw [e, Int.toNat_natCast, hs.op k hk]
  · intro n
    unfold PM.sent_ RM.sent_
    rcases isC_cases n with e | ⟨e, k, hk, rfl⟩
    · rw [e]; rfl
    · rw [e, Int.toNat_natCast, hs.sent k hk, strOfNums_nums]
  · intro n
    unfold RM.slotV PM.slotV slotVal
    rcases isS_cases n with e | ⟨e, k, hk, rfl⟩
    · rw [e]; rfl
    · rw [e, Int.toNat_natCast, hs.st k hk, hs.old k hk, hs.served k hk, hs.since k hk, hs.conn k hk, hs.id k hk]
  · intro n
    unfold RM.jobV PM.jobV
    rcases isS_cases n with e | ⟨e, k, hk, rfl⟩
    · rw [e]; rfl
    · rw [e, Int.toNat_natCast, hs.st k hk]
      cases h3 : ((M.slot k).st == 3)
      · rfl
      · simp only [Bool.and_self, cond_true]
        exact (hs.job k hk (by simpa using h3)).symm
  · intro n
    unfold RM.stE PM.jobE PM.stE
    rcases isS_cases n with e | ⟨e, k, hk, rfl⟩
    · rw [e]; rfl
    · rw [e, Int.toNat_natCast, hs.st k hk]

end
end Go.Proofs.YtlafkpaljibonaaGreat

namespace Go.Proofs.YtlafkpaljibonaaGreat
open Go.RowKit

/-- A step of a script. -/
structure St where
  kind : Int
  a : Int
  s : ByteArray
  c : Cfg
  t : Int

def St.cells (x : St) : List Value := .int .i64 x.kind :: .int .i64 x.a :: .string x.s :: (x.c.cells ++ [.int .i64 x.t])
def St.val (x : St) : Value := .agg #[.int .i64 x.kind, .int .i64 x.a, .string x.s, .int .i64 x.c.ch, .bool x.c.dyn, .int .i64 x.c.mn, .int .i64 x.c.mx, .int .i64 x.c.mr, .int .i64 x.c.tmo, .int .i64 x.c.bl, .int .i64 x.t]

section
variable {p : Nat} {o o' : Nat → Tag} {w w' : World} {gb fb wb : Nat} {ls ts : List Value} {lv tv : Value} {m : PM} {sv : Nat → Value} {rv : Value} {M : RM} {nv : Nat → Value} {kv qv : Value} {B : Nat}

def RM.afterFeed (M : RM) (n : Int) (s : ByteArray) : RM := cond (M.chk n == 0) (M.feed n.toNat s) M

theorem chk_same (h : Sim m M) (n : Int) : m.chk n = M.chk n := by
  unfold PM.chk RM.chk
  rcases isC_cases n with e | ⟨e, k, hk, rfl⟩
  · rw [e]; rfl
  · rw [e, Int.toNat_natCast, h.op k hk]

theorem connectE_same (h : Sim m M) (n : Int) : m.connectE n = M.connectE n := by
  unfold PM.connectE RM.connectE
  rcases isC_cases n with e | ⟨e, k, hk, rfl⟩
  · rw [e]; rfl
  · rw [e, Int.toNat_natCast, h.op k hk]

theorem chk_zero {n : Int} (h : m.chk n = 0) : ∃ k : Nat, k < 4 ∧ n = k ∧ (m.con k).op = true := by
  rcases isC_cases n with h0 | ⟨h0, k, hk, rfl⟩
  · simp [PM.chk, h0] at h
  · refine ⟨k, hk, rfl, ?_⟩
    simp only [PM.chk, h0, cond_true, Int.toNat_natCast] at h
    cases hc : (m.con k).op
    · rw [hc] at h; simp at h
    · rfl

theorem Ok.afterConnect (h : Ok m M B) (n : Int) : Ok (m.afterConnect n) (M.afterConnect n) B := by
  unfold PM.afterConnect RM.afterConnect
  rcases isC_cases n with e | ⟨e, k, hk, rfl⟩
  · rw [e]; exact h
  · rw [e, Int.toNat_natCast, h.sim.op k hk]
    cases (M.line k).op
    · exact h.connect k
    · exact h

theorem Ok.afterHangup (h : Ok m M B) (n : Int) : Ok (m.afterHangup n) (M.afterHangup n) B := by
  unfold PM.afterHangup RM.afterHangup
  rw [chk_same h.sim]
  cases (M.chk n == 0)
  · exact h
  · exact h.close _

theorem Ok.afterFeed (h : Ok m M B) (n : Int) (s : ByteArray) : Ok (m.afterFeed n s) (M.afterFeed n s) (B + s.size) := by
  unfold PM.afterFeed RM.afterFeed
  rw [← chk_same h.sim]
  by_cases e : m.chk n = 0
  · obtain ⟨k, hk, rfl, ho⟩ := chk_zero e
    rw [e]
    exact h.feed hk ho s
  · have e' : (m.chk n == 0) = false := by simpa using e
    rw [e']
    exact h.mono (by omega)

set_option maxRecDepth 100000 in
set_option maxHeartbeats 1000000 in
theorem rFeed_any (h : RMem o (p + 2) w wb M nv kv qv) (hok : Ok m M B) (n : Int) (s : ByteArray) (hB : B ≤ 100000000) (hs : s.size ≤ 100000000) :
    Calls Tryz.prog 48 #[.pointer (some ⟨wb, 0, none⟩), .int .i64 n, .string s] w fun r w' => r = .returned (.int .i64 (M.chk n)) ∧ ∃ o' nv' kv' qv', RMem o' (p + 2) w' wb (M.afterFeed n s) nv' kv' qv' ∧ Fr (p + 2) o w o' w' := by
  unfold RM.afterFeed
  by_cases e : M.chk n = 0
  · obtain ⟨k, hk, rfl, ho⟩ := chk_zero (m := m) (by rw [chk_same hok.sim]; exact e)
    obtain ⟨f1, -, f3⟩ := hok.fed k hk ho
    obtain ⟨r1, -, -, -⟩ := read_on (M.line k).come s f3
    obtain ⟨pL, -, -⟩ := rd_parts true ((M.line k).come ++ s)
    obtain ⟨q1, q2⟩ := rdec_recs ((M.line k).come ++ s) (((M.line k).come ++ s).size + 1) 0
    rw [← pL] at q1 q2
    have hc := hok.come k
    have hsz : ((M.line k).come ++ s).size ≤ 200000000 := by rw [ByteArray.size_append]; omega
    rw [e]
    simp only [beq_self_eq_true, cond_true, Int.toNat_natCast]
    exact rFeed_open h (by omega) k hk s e hok.good (by omega) (by omega) (by omega) (by omega) (by rw [r1, f1, List.length_append]; omega) (by omega) (fun r hr => ⟨(q1 r hr).1, by have := (q1 r hr).2; omega⟩)
  · have e' : (M.chk n == 0) = false := by simpa using e
    have k1 : Hid (∀ w', RMem o (p + 2) w' wb M nv kv qv → Calls Tryz.prog 80 #[.pointer (some ⟨wb, 0, none⟩), .int .i64 n] w' fun r w'' => r = .returned (.int .i64 (M.chk n)) ∧ w'' = w') := fun w' h' => rClosed_any h' n
    rw [e']
    simp only [cond_false]
    generalize M.chk n = E at *
    go_enter Tryz.func48, Tryz.ntmps48
    go_wp2_with fail
    refine (k1.out _ h).mono ?_
    rintro e w1 ⟨rfl, rfl⟩
    go_wp2
    go_ret
    exact ⟨rfl, o, nv, kv, qv, h, Fr.refl h.clean⟩

end
end Go.Proofs.YtlafkpaljibonaaGreat

namespace Go.Proofs.YtlafkpaljibonaaGreat
open Go.RowKit

section
variable {p : Nat} {o o' : Nat → Tag} {w w' : World} {gb fb wb : Nat} {ls ts : List Value} {lv tv : Value} {m : PM} {sv : Nat → Value} {rv : Value} {M : RM} {nv : Nat → Value} {kv qv : Value} {B : Nat}

theorem stE_same (h : Sim m M) (n st : Int) : m.stE n st = M.stE n st := by
  unfold PM.stE RM.stE
  rcases isS_cases n with e | ⟨e, k, hk, rfl⟩
  · rw [e]; rfl
  · rw [e, Int.toNat_natCast, h.st k hk]

theorem diedE_same (h : Sim m M) (n : Int) : m.diedE n = M.diedE n := by
  unfold PM.diedE RM.diedE
  rcases isS_cases n with e | ⟨e, k, hk, rfl⟩
  · rw [e]; rfl
  · rw [e, Int.toNat_natCast, h.st k hk]

theorem Ok.afterSpawned (h : Ok m M B) (n : Int) : Ok (m.afterSpawned n) (M.afterSpawned n) B := by
  unfold PM.afterSpawned RM.afterSpawned
  rw [stE_same h.sim]
  by_cases e : M.stE n 1 = 0
  · obtain ⟨k, hk, rfl, hst⟩ := RM.stE_zero e
    rw [e]
    exact h.spawned hk hst
  · have e' : (M.stE n 1 == 0) = false := by simpa using e
    rw [e']
    exact h

theorem Ok.afterOutput (h : Ok m M B) (n : Int) (s : ByteArray) : Ok (m.afterOutput n s) (M.afterOutput n s) (B + s.size) := by
  unfold PM.afterOutput RM.afterOutput
  rw [stE_same h.sim]
  by_cases e : M.stE n 3 = 0
  · obtain ⟨k, hk, rfl, -⟩ := RM.stE_zero e
    rw [e]
    exact h.outputs hk s
  · have e' : (M.stE n 3 == 0) = false := by simpa using e
    rw [e']
    exact h.mono (by omega)

theorem Ok.afterFinished (h : Ok m M B) (n : Int) : Ok (m.afterFinished n) (M.afterFinished n) (B + 1) := by
  unfold PM.afterFinished RM.afterFinished
  rw [stE_same h.sim]
  by_cases e : M.stE n 3 = 0
  · obtain ⟨k, hk, rfl, -⟩ := RM.stE_zero e
    rw [e]
    exact h.finished hk
  · have e' : (M.stE n 3 == 0) = false := by simpa using e
    rw [e']
    exact h.mono (by omega)

theorem Ok.afterDied (h : Ok m M B) (n : Int) : Ok (m.afterDied n) (M.afterDied n) (B + 1) := by
  unfold PM.afterDied RM.afterDied
  rw [diedE_same h.sim]
  by_cases e : M.diedE n = 0
  · rw [e]
    rcases isS_cases n with h0 | ⟨h0, k, hk, rfl⟩
    · simp [RM.diedE, h0] at e
    · exact h.died hk
  · have e' : (M.diedE n == 0) = false := by simpa using e
    rw [e']
    exact h.mono (by omega)

set_option maxRecDepth 100000 in
set_option maxHeartbeats 4000000 in
theorem lines_connect (h : Trio p o w gb fb wb ls ts lv tv m sv rv M nv kv qv) (hok : Ok m M B) (hB : B ≤ 10000000) (x : St) (hs : x.s.size ≤ 10000000) (hx : x.kind = 2) :
    Calls Tryz.prog 23 #[.pointer (some ⟨gb, 0, none⟩), x.val] w fun r w' => ∃ e, r = .returned (.tuple #[.int .i64 e, .int .i64 e]) ∧ ∃ o' sv' rv' nv' kv' qv' m' M', Trio p o' w' gb fb wb ls ts lv tv m' sv' rv' M' nv' kv' qv' ∧ Ok m' M' (B + x.s.size + 1) ∧ FrX p o w o' w' := by
  obtain ⟨kind, a, s, ⟨ch, dyn, mn, mx, mr, tmo, bl⟩, t⟩ := x
  simp only at hx hs
  subst hx
  simp only [St.val]
  have hsm := hok.small
  have _hB2 := hB
  have hsim := hok.sim
  have k1 : Hid (∀ w', FMem o (p + 1) w' fb m sv rv → Calls Tryz.prog 43 #[.pointer (some ⟨fb, 0, none⟩), .int .i64 a] w' fun r w'' => r = .returned (.int .i64 (m.connectE a)) ∧ ∃ o' sv' rv', FMem o' (p + 1) w'' fb (m.afterConnect a) sv' rv' ∧ Fr (p + 1) o w' o' w'') := fun w' h' => by
    refine (connect_any h' a).mono ?_
    rintro r w'' ⟨e, sv', h1, h2⟩
    exact ⟨e, o, sv', rv, h1, h2⟩
  have k2 : Hid (∀ o' w', RMem o' (p + 2) w' wb M nv kv qv → Calls Tryz.prog 44 #[.pointer (some ⟨wb, 0, none⟩), .int .i64 a] w' fun r w'' => r = .returned (.int .i64 (m.connectE a)) ∧ ∃ o'' nv' kv' qv', RMem o'' (p + 2) w'' wb (M.afterConnect a) nv' kv' qv' ∧ Fr (p + 2) o' w' o'' w'') := fun o' w' h' => by
    refine (rConnect_any h' a).mono ?_
    rintro r w'' ⟨e, nv', h1, h2⟩
    rw [connectE_same hsim]
    exact ⟨e, o', nv', kv, qv, h1, h2⟩
  have hok' : Hid (Ok (m.afterConnect a) (M.afterConnect a) (B + s.size + 1)) := (hok.afterConnect a).mono (by omega)
  clear hok hsm hsim hB hs _hB2
  generalize m.afterConnect a = m' at *
  generalize M.afterConnect a = M' at *
  generalize m.connectE a = E at *
  have hb0 : Below w.heap.size w (w.alloc (.cells #[.int .i64 2, .int .i64 a, .string s, .int .i64 ch, .bool dyn, .int .i64 mn, .int .i64 mx, .int .i64 mr, .int .i64 tmo, .int .i64 bl, .int .i64 t] 33)) := (Below.refl _ _).alloc (Nat.le_refl _) _
  have x0 := Blk.made w 33 [.int .i64 2, .int .i64 a, .string s, .int .i64 ch, .bool dyn, .int .i64 mn, .int .i64 mx, .int .i64 mr, .int .i64 tmo, .int .i64 bl, .int .i64 t]
  have hcl := h.f.clean _ (Nat.le_refl w.heap.size)
  go_enter Tryz.func23, Tryz.ntmps23
  go_wp2_with fail
  have x1 : Blk (w.alloc (.cells #[.int .i64 2, .int .i64 a, .string s, .int .i64 ch, .bool dyn, .int .i64 mn, .int .i64 mx, .int .i64 mr, .int .i64 tmo, .int .i64 bl, .int .i64 t] 33)) w.heap.size 33 [.int .i64 2, .int .i64 a, .string s, .int .i64 ch, .bool dyn, .int .i64 mn, .int .i64 mx, .int .i64 mr, .int .i64 tmo, .int .i64 bl, .int .i64 t] := x0
  have hT := h.below hb0
  have fx0 := FrX.of_below (p := p) h.f.clean hb0
  clear x0 h
  generalize w.alloc (.cells #[.int .i64 2, .int .i64 a, .string s, .int .i64 ch, .bool dyn, .int .i64 mn, .int .i64 mx, .int .i64 mr, .int .i64 tmo, .int .i64 bl, .int .i64 t] 33) = w0 at *
  have c0 := hT.g.fc
  have y1 := x1.cell (k := 1) (u := .int .i64 a) rfl
  have hTd := hT.below (Below.refl _ _).drew
  have hlt0 : w.heap.size < w0.drew.heap.size := x1.lt
  go_region_held3 (fun w' => w'.cell? ⟨gb, 0, none⟩ = some (.pointer (some ⟨fb, 0, none⟩)) ∧ w'.cell? ⟨w.heap.size, 1, none⟩ = some (.int .i64 a)) (first | exact ⟨c0, y1⟩ | exact ⟨d0, z1⟩) (first | (go_at_call 43; refine (k1.out _ hTd.f).mono ?_; rintro e w2 ⟨rfl, o2, sv2, rv2, hf2, fr2⟩; have hg2 := hTd.g.fr fr2 (by omega); have hr2 := hTd.r.fr fr2 (by omega); have x2 : Blk w2 w.heap.size 33 _ := x1.keep (fr2.block _ x1.lt (by rw [hcl]; exact fun e => by cases e)); have d0 := hg2.fc; have z1 := x2.cell (k := 1) (u := .int .i64 a) rfl))
  have fx2 := (fx0.below (Below.refl _ _).drew).trans (fr2.toX (by omega))
  have d1 := hg2.wc
  clear c0 y1 hTd hT x1 k1 hb0
  go_wp2_with fail
  have hr2d := hr2.below (Below.refl _ _).drew
  go_region_held3 (fun w' => w'.cell? ⟨gb, 1, none⟩ = some (.pointer (some ⟨wb, 0, none⟩)) ∧ w'.cell? ⟨w.heap.size, 1, none⟩ = some (.int .i64 a)) (first | exact ⟨d1, z1⟩ | exact ⟨d3, z3⟩) (first | (go_at_call 15; refine (num_any _ _).mono ?_; rintro e w3 ⟨rfl, rfl⟩) | (go_at_call 44; refine (k2.out _ _ hr2d).mono ?_; rintro e w4 ⟨rfl, o4, nv4, kv4, qv4, hr4, fr4⟩; have hg4 := (hg2.below (Below.refl _ _).drew).fr fr4 (by omega); have hf4 := (hf2.below (Below.refl _ _).drew).fr fr4 (by omega); have x4 : Blk w4 w.heap.size 33 _ := x2.keep (fr4.block _ x2.lt (by rw [fr2.tags _ hlt0, hcl]; exact fun e => by cases e)); have d3 := hg4.wc; have z3 := x4.cell (k := 1) (u := .int .i64 a) rfl))
  all_goals
    have fx4 := (fx2.below (Below.refl _ _).drew).trans (fr4.toX (by omega))
    clear d0 d1 d3 z1 z3
    go_wp2
    go_ret2
    exact ⟨E, rfl, o4, sv2, rv2, nv4, kv4, qv4, m', M', ⟨hg4, hf4, hr4⟩, hok'.out, fx4⟩

set_option maxRecDepth 100000 in
set_option maxHeartbeats 4000000 in
theorem lines_hangup (h : Trio p o w gb fb wb ls ts lv tv m sv rv M nv kv qv) (hok : Ok m M B) (hB : B ≤ 10000000) (x : St) (hs : x.s.size ≤ 10000000) (hx : x.kind = 3) :
    Calls Tryz.prog 23 #[.pointer (some ⟨gb, 0, none⟩), x.val] w fun r w' => ∃ e, r = .returned (.tuple #[.int .i64 e, .int .i64 e]) ∧ ∃ o' sv' rv' nv' kv' qv' m' M', Trio p o' w' gb fb wb ls ts lv tv m' sv' rv' M' nv' kv' qv' ∧ Ok m' M' (B + x.s.size + 1) ∧ FrX p o w o' w' := by
  obtain ⟨kind, a, s, ⟨ch, dyn, mn, mx, mr, tmo, bl⟩, t⟩ := x
  simp only at hx hs
  subst hx
  simp only [St.val]
  have hsm := hok.small
  have _hB2 := hB
  have hsim := hok.sim
  have k1 : Hid (∀ w', FMem o (p + 1) w' fb m sv rv → Calls Tryz.prog 45 #[.pointer (some ⟨fb, 0, none⟩), .int .i64 a] w' fun r w'' => r = .returned (.int .i64 (m.chk a)) ∧ ∃ o' sv' rv', FMem o' (p + 1) w'' fb (m.afterHangup a) sv' rv' ∧ Fr (p + 1) o w' o' w'') := fun w' h' => by
    refine (hangup_any h' (by omega) a (by have := hsm.req; omega)).mono ?_
    rintro r w'' ⟨e, o'', rv', h1, h2⟩
    exact ⟨e, o'', sv, rv', h1, h2⟩
  have k2 : Hid (∀ o' w', RMem o' (p + 2) w' wb M nv kv qv → Calls Tryz.prog 46 #[.pointer (some ⟨wb, 0, none⟩), .int .i64 a] w' fun r w'' => r = .returned (.int .i64 (m.chk a)) ∧ ∃ o'' nv' kv' qv', RMem o'' (p + 2) w'' wb (M.afterHangup a) nv' kv' qv' ∧ Fr (p + 2) o' w' o'' w'') := fun o' w' h' => by
    refine (rHangup_any h' a).mono ?_
    rintro r w'' ⟨e, h1, h2⟩
    rw [chk_same hsim]
    exact ⟨e, o', nv, kv, qv, h1, h2⟩
  have hok' : Hid (Ok (m.afterHangup a) (M.afterHangup a) (B + s.size + 1)) := (hok.afterHangup a).mono (by omega)
  clear hok hsm hsim hB hs _hB2
  generalize m.afterHangup a = m' at *
  generalize M.afterHangup a = M' at *
  generalize m.chk a = E at *
  have hb0 : Below w.heap.size w (w.alloc (.cells #[.int .i64 3, .int .i64 a, .string s, .int .i64 ch, .bool dyn, .int .i64 mn, .int .i64 mx, .int .i64 mr, .int .i64 tmo, .int .i64 bl, .int .i64 t] 33)) := (Below.refl _ _).alloc (Nat.le_refl _) _
  have x0 := Blk.made w 33 [.int .i64 3, .int .i64 a, .string s, .int .i64 ch, .bool dyn, .int .i64 mn, .int .i64 mx, .int .i64 mr, .int .i64 tmo, .int .i64 bl, .int .i64 t]
  have hcl := h.f.clean _ (Nat.le_refl w.heap.size)
  go_enter Tryz.func23, Tryz.ntmps23
  go_wp2_with fail
  have x1 : Blk (w.alloc (.cells #[.int .i64 3, .int .i64 a, .string s, .int .i64 ch, .bool dyn, .int .i64 mn, .int .i64 mx, .int .i64 mr, .int .i64 tmo, .int .i64 bl, .int .i64 t] 33)) w.heap.size 33 [.int .i64 3, .int .i64 a, .string s, .int .i64 ch, .bool dyn, .int .i64 mn, .int .i64 mx, .int .i64 mr, .int .i64 tmo, .int .i64 bl, .int .i64 t] := x0
  have hT := h.below hb0
  have fx0 := FrX.of_below (p := p) h.f.clean hb0
  clear x0 h
  generalize w.alloc (.cells #[.int .i64 3, .int .i64 a, .string s, .int .i64 ch, .bool dyn, .int .i64 mn, .int .i64 mx, .int .i64 mr, .int .i64 tmo, .int .i64 bl, .int .i64 t] 33) = w0 at *
  have c0 := hT.g.fc
  have y1 := x1.cell (k := 1) (u := .int .i64 a) rfl
  have hTd := hT.below (Below.refl _ _).drew
  have hlt0 : w.heap.size < w0.drew.heap.size := x1.lt
  go_region_held3 (fun w' => w'.cell? ⟨gb, 0, none⟩ = some (.pointer (some ⟨fb, 0, none⟩)) ∧ w'.cell? ⟨w.heap.size, 1, none⟩ = some (.int .i64 a)) (first | exact ⟨c0, y1⟩ | exact ⟨d0, z1⟩) (first | (go_at_call 45; refine (k1.out _ hTd.f).mono ?_; rintro e w2 ⟨rfl, o2, sv2, rv2, hf2, fr2⟩; have hg2 := hTd.g.fr fr2 (by omega); have hr2 := hTd.r.fr fr2 (by omega); have x2 : Blk w2 w.heap.size 33 _ := x1.keep (fr2.block _ x1.lt (by rw [hcl]; exact fun e => by cases e)); have d0 := hg2.fc; have z1 := x2.cell (k := 1) (u := .int .i64 a) rfl))
  have fx2 := (fx0.below (Below.refl _ _).drew).trans (fr2.toX (by omega))
  have d1 := hg2.wc
  clear c0 y1 hTd hT x1 k1 hb0
  go_wp2_with fail
  have hr2d := hr2.below (Below.refl _ _).drew
  go_region_held3 (fun w' => w'.cell? ⟨gb, 1, none⟩ = some (.pointer (some ⟨wb, 0, none⟩)) ∧ w'.cell? ⟨w.heap.size, 1, none⟩ = some (.int .i64 a)) (first | exact ⟨d1, z1⟩ | exact ⟨d3, z3⟩) (first | (go_at_call 15; refine (num_any _ _).mono ?_; rintro e w3 ⟨rfl, rfl⟩) | (go_at_call 46; refine (k2.out _ _ hr2d).mono ?_; rintro e w4 ⟨rfl, o4, nv4, kv4, qv4, hr4, fr4⟩; have hg4 := (hg2.below (Below.refl _ _).drew).fr fr4 (by omega); have hf4 := (hf2.below (Below.refl _ _).drew).fr fr4 (by omega); have x4 : Blk w4 w.heap.size 33 _ := x2.keep (fr4.block _ x2.lt (by rw [fr2.tags _ hlt0, hcl]; exact fun e => by cases e)); have d3 := hg4.wc; have z3 := x4.cell (k := 1) (u := .int .i64 a) rfl))
  all_goals
    have fx4 := (fx2.below (Below.refl _ _).drew).trans (fr4.toX (by omega))
    clear d0 d1 d3 z1 z3
    go_wp2
    go_ret2
    exact ⟨E, rfl, o4, sv2, rv2, nv4, kv4, qv4, m', M', ⟨hg4, hf4, hr4⟩, hok'.out, fx4⟩

set_option maxRecDepth 100000 in
set_option maxHeartbeats 4000000 in
theorem lines_feed (h : Trio p o w gb fb wb ls ts lv tv m sv rv M nv kv qv) (hok : Ok m M B) (hB : B ≤ 10000000) (x : St) (hs : x.s.size ≤ 10000000) (hx : x.kind = 4) :
    Calls Tryz.prog 23 #[.pointer (some ⟨gb, 0, none⟩), x.val] w fun r w' => ∃ e, r = .returned (.tuple #[.int .i64 e, .int .i64 e]) ∧ ∃ o' sv' rv' nv' kv' qv' m' M', Trio p o' w' gb fb wb ls ts lv tv m' sv' rv' M' nv' kv' qv' ∧ Ok m' M' (B + x.s.size + 1) ∧ FrX p o w o' w' := by
  obtain ⟨kind, a, s, ⟨ch, dyn, mn, mx, mr, tmo, bl⟩, t⟩ := x
  simp only at hx hs
  subst hx
  simp only [St.val]
  have hsm := hok.small
  have _hB2 := hB
  have hsim := hok.sim
  have k1 : Hid (∀ w', FMem o (p + 1) w' fb m sv rv → Calls Tryz.prog 47 #[.pointer (some ⟨fb, 0, none⟩), .int .i64 a, .string s] w' fun r w'' => r = .returned (.int .i64 (m.chk a)) ∧ ∃ o' sv' rv', FMem o' (p + 1) w'' fb (m.afterFeed a s) sv' rv' ∧ Fr (p + 1) o w' o' w'') := fun w' h' => by
    exact feed_any h' (by omega) a s (by omega) (fun k hk => by have := hok.rest k hk; omega) hsm (by omega) (by omega)
  have k2 : Hid (∀ o' w', RMem o' (p + 2) w' wb M nv kv qv → Calls Tryz.prog 48 #[.pointer (some ⟨wb, 0, none⟩), .int .i64 a, .string s] w' fun r w'' => r = .returned (.int .i64 (m.chk a)) ∧ ∃ o'' nv' kv' qv', RMem o'' (p + 2) w'' wb (M.afterFeed a s) nv' kv' qv' ∧ Fr (p + 2) o' w' o'' w'') := fun o' w' h' => by
    refine (rFeed_any h' hok a s (by omega) (by omega)).mono ?_
    rintro r w'' ⟨e, h1⟩
    rw [chk_same hsim]
    exact ⟨e, h1⟩
  have hok' : Hid (Ok (m.afterFeed a s) (M.afterFeed a s) (B + s.size + 1)) := (hok.afterFeed a s).mono (by omega)
  clear hok hsm hsim hB hs _hB2
  generalize m.afterFeed a s = m' at *
  generalize M.afterFeed a s = M' at *
  generalize m.chk a = E at *
  have hb0 : Below w.heap.size w (w.alloc (.cells #[.int .i64 4, .int .i64 a, .string s, .int .i64 ch, .bool dyn, .int .i64 mn, .int .i64 mx, .int .i64 mr, .int .i64 tmo, .int .i64 bl, .int .i64 t] 33)) := (Below.refl _ _).alloc (Nat.le_refl _) _
  have x0 := Blk.made w 33 [.int .i64 4, .int .i64 a, .string s, .int .i64 ch, .bool dyn, .int .i64 mn, .int .i64 mx, .int .i64 mr, .int .i64 tmo, .int .i64 bl, .int .i64 t]
  have hcl := h.f.clean _ (Nat.le_refl w.heap.size)
  go_enter Tryz.func23, Tryz.ntmps23
  go_wp2_with fail
  have x1 : Blk (w.alloc (.cells #[.int .i64 4, .int .i64 a, .string s, .int .i64 ch, .bool dyn, .int .i64 mn, .int .i64 mx, .int .i64 mr, .int .i64 tmo, .int .i64 bl, .int .i64 t] 33)) w.heap.size 33 [.int .i64 4, .int .i64 a, .string s, .int .i64 ch, .bool dyn, .int .i64 mn, .int .i64 mx, .int .i64 mr, .int .i64 tmo, .int .i64 bl, .int .i64 t] := x0
  have hT := h.below hb0
  have fx0 := FrX.of_below (p := p) h.f.clean hb0
  clear x0 h
  generalize w.alloc (.cells #[.int .i64 4, .int .i64 a, .string s, .int .i64 ch, .bool dyn, .int .i64 mn, .int .i64 mx, .int .i64 mr, .int .i64 tmo, .int .i64 bl, .int .i64 t] 33) = w0 at *
  have c0 := hT.g.fc
  have y1 := x1.cell (k := 1) (u := .int .i64 a) rfl
  have y2 := x1.cell (k := 2) (u := .string s) rfl
  have hTd := hT.below (Below.refl _ _).drew
  have hlt0 : w.heap.size < w0.drew.heap.size := x1.lt
  go_region_held3 (fun w' => w'.cell? ⟨gb, 0, none⟩ = some (.pointer (some ⟨fb, 0, none⟩)) ∧ w'.cell? ⟨w.heap.size, 1, none⟩ = some (.int .i64 a) ∧ w'.cell? ⟨w.heap.size, 2, none⟩ = some (.string s)) (first | exact ⟨c0, y1, y2⟩ | exact ⟨d0, z1, z2⟩) (first | (go_at_call 47; refine (k1.out _ hTd.f).mono ?_; rintro e w2 ⟨rfl, o2, sv2, rv2, hf2, fr2⟩; have hg2 := hTd.g.fr fr2 (by omega); have hr2 := hTd.r.fr fr2 (by omega); have x2 : Blk w2 w.heap.size 33 _ := x1.keep (fr2.block _ x1.lt (by rw [hcl]; exact fun e => by cases e)); have d0 := hg2.fc; have z1 := x2.cell (k := 1) (u := .int .i64 a) rfl; have z2 := x2.cell (k := 2) (u := .string s) rfl))
  have fx2 := (fx0.below (Below.refl _ _).drew).trans (fr2.toX (by omega))
  have d1 := hg2.wc
  clear c0 y1 y2 hTd hT x1 k1 hb0
  go_wp2_with fail
  have hr2d := hr2.below (Below.refl _ _).drew
  go_region_held3 (fun w' => w'.cell? ⟨gb, 1, none⟩ = some (.pointer (some ⟨wb, 0, none⟩)) ∧ w'.cell? ⟨w.heap.size, 1, none⟩ = some (.int .i64 a) ∧ w'.cell? ⟨w.heap.size, 2, none⟩ = some (.string s)) (first | exact ⟨d1, z1, z2⟩ | exact ⟨d3, z3, z4⟩) (first | (go_at_call 15; refine (num_any _ _).mono ?_; rintro e w3 ⟨rfl, rfl⟩) | (go_at_call 48; refine (k2.out _ _ hr2d).mono ?_; rintro e w4 ⟨rfl, o4, nv4, kv4, qv4, hr4, fr4⟩; have hg4 := (hg2.below (Below.refl _ _).drew).fr fr4 (by omega); have hf4 := (hf2.below (Below.refl _ _).drew).fr fr4 (by omega); have x4 : Blk w4 w.heap.size 33 _ := x2.keep (fr4.block _ x2.lt (by rw [fr2.tags _ hlt0, hcl]; exact fun e => by cases e)); have d3 := hg4.wc; have z3 := x4.cell (k := 1) (u := .int .i64 a) rfl; have z4 := x4.cell (k := 2) (u := .string s) rfl))
  all_goals
    have fx4 := (fx2.below (Below.refl _ _).drew).trans (fr4.toX (by omega))
    clear d0 d1 d3 z1 z2 z3 z4
    go_wp2
    go_ret2
    exact ⟨E, rfl, o4, sv2, rv2, nv4, kv4, qv4, m', M', ⟨hg4, hf4, hr4⟩, hok'.out, fx4⟩
end
end Go.Proofs.YtlafkpaljibonaaGreat

namespace Go.Proofs.YtlafkpaljibonaaGreat
open Go.RowKit

section
variable {p : Nat} {o o' : Nat → Tag} {w w' : World} {gb fb wb : Nat} {ls ts : List Value} {lv tv : Value} {m : PM} {sv : Nat → Value} {rv : Value} {M : RM} {nv : Nat → Value} {kv qv : Value} {B : Nat}

set_option maxRecDepth 100000 in
set_option maxHeartbeats 4000000 in
theorem works_spawned (h : Trio p o w gb fb wb ls ts lv tv m sv rv M nv kv qv) (hok : Ok m M B) (hB : B ≤ 10000000) (x : St) (hs : x.s.size ≤ 10000000) (hx : x.kind = 5) :
    Calls Tryz.prog 24 #[.pointer (some ⟨gb, 0, none⟩), x.val] w fun r w' => ∃ e, r = .returned (.tuple #[.int .i64 e, .int .i64 e]) ∧ ∃ o' sv' rv' nv' kv' qv' m' M', Trio p o' w' gb fb wb ls ts lv tv m' sv' rv' M' nv' kv' qv' ∧ Ok m' M' (B + x.s.size + 1) ∧ FrX p o w o' w' := by
  obtain ⟨kind, a, s, ⟨ch, dyn, mn, mx, mr, tmo, bl⟩, t⟩ := x
  simp only at hx hs
  subst hx
  simp only [St.val]
  have hsm := hok.small
  have _hB2 := hB
  have hsim := hok.sim
  have k1 : Hid (∀ w', FMem o (p + 1) w' fb m sv rv → Calls Tryz.prog 49 #[.pointer (some ⟨fb, 0, none⟩), .int .i64 a] w' fun r w'' => r = .returned (.int .i64 (m.stE a 1)) ∧ ∃ o' sv' rv', FMem o' (p + 1) w'' fb (m.afterSpawned a) sv' rv' ∧ Fr (p + 1) o w' o' w'') := fun w' h' => by
    refine (spawned_any h' a).mono ?_
    rintro r w'' ⟨e, h1, h2⟩
    exact ⟨e, o, sv, rv, h1, h2⟩
  have k2 : Hid (∀ o' w', RMem o' (p + 2) w' wb M nv kv qv → Calls Tryz.prog 50 #[.pointer (some ⟨wb, 0, none⟩), .int .i64 a] w' fun r w'' => r = .returned (.int .i64 (m.stE a 1)) ∧ ∃ o'' nv' kv' qv', RMem o'' (p + 2) w'' wb (M.afterSpawned a) nv' kv' qv' ∧ Fr (p + 2) o' w' o'' w'') := fun o' w' h' => by
    refine (rSpawned_any h' hok.good.wf (by have := hok.good.queue; omega) a).mono ?_
    rintro r w'' ⟨e, h1, h2⟩
    rw [stE_same hsim]
    exact ⟨e, o', nv, kv, qv, h1, h2⟩
  have hok' : Hid (Ok (m.afterSpawned a) (M.afterSpawned a) (B + s.size + 1)) := (hok.afterSpawned a).mono (by omega)
  clear hok hsm hsim hB hs _hB2
  generalize m.afterSpawned a = m' at *
  generalize M.afterSpawned a = M' at *
  generalize m.stE a 1 = E at *
  have hb0 : Below w.heap.size w (w.alloc (.cells #[.int .i64 5, .int .i64 a, .string s, .int .i64 ch, .bool dyn, .int .i64 mn, .int .i64 mx, .int .i64 mr, .int .i64 tmo, .int .i64 bl, .int .i64 t] 33)) := (Below.refl _ _).alloc (Nat.le_refl _) _
  have x0 := Blk.made w 33 [.int .i64 5, .int .i64 a, .string s, .int .i64 ch, .bool dyn, .int .i64 mn, .int .i64 mx, .int .i64 mr, .int .i64 tmo, .int .i64 bl, .int .i64 t]
  have hcl := h.f.clean _ (Nat.le_refl w.heap.size)
  go_enter Tryz.func24, Tryz.ntmps24
  go_wp2_with fail
  have x1 : Blk (w.alloc (.cells #[.int .i64 5, .int .i64 a, .string s, .int .i64 ch, .bool dyn, .int .i64 mn, .int .i64 mx, .int .i64 mr, .int .i64 tmo, .int .i64 bl, .int .i64 t] 33)) w.heap.size 33 [.int .i64 5, .int .i64 a, .string s, .int .i64 ch, .bool dyn, .int .i64 mn, .int .i64 mx, .int .i64 mr, .int .i64 tmo, .int .i64 bl, .int .i64 t] := x0
  have hT := h.below hb0
  have fx0 := FrX.of_below (p := p) h.f.clean hb0
  clear x0 h
  generalize w.alloc (.cells #[.int .i64 5, .int .i64 a, .string s, .int .i64 ch, .bool dyn, .int .i64 mn, .int .i64 mx, .int .i64 mr, .int .i64 tmo, .int .i64 bl, .int .i64 t] 33) = w0 at *
  have c0 := hT.g.fc
  have y1 := x1.cell (k := 1) (u := .int .i64 a) rfl
  have hTd := hT.below (Below.refl _ _).drew
  have hlt0 : w.heap.size < w0.drew.heap.size := x1.lt
  go_region_held3 (fun w' => w'.cell? ⟨gb, 0, none⟩ = some (.pointer (some ⟨fb, 0, none⟩)) ∧ w'.cell? ⟨w.heap.size, 1, none⟩ = some (.int .i64 a)) (first | exact ⟨c0, y1⟩ | exact ⟨d0, z1⟩) (first | (go_at_call 49; refine (k1.out _ hTd.f).mono ?_; rintro e w2 ⟨rfl, o2, sv2, rv2, hf2, fr2⟩; have hg2 := hTd.g.fr fr2 (by omega); have hr2 := hTd.r.fr fr2 (by omega); have x2 : Blk w2 w.heap.size 33 _ := x1.keep (fr2.block _ x1.lt (by rw [hcl]; exact fun e => by cases e)); have d0 := hg2.fc; have z1 := x2.cell (k := 1) (u := .int .i64 a) rfl))
  have fx2 := (fx0.below (Below.refl _ _).drew).trans (fr2.toX (by omega))
  have d1 := hg2.wc
  clear c0 y1 hTd hT x1 k1 hb0
  go_wp2_with fail
  have hr2d := hr2.below (Below.refl _ _).drew
  go_region_held3 (fun w' => w'.cell? ⟨gb, 1, none⟩ = some (.pointer (some ⟨wb, 0, none⟩)) ∧ w'.cell? ⟨w.heap.size, 1, none⟩ = some (.int .i64 a)) (first | exact ⟨d1, z1⟩ | exact ⟨d3, z3⟩) (first | (go_at_call 15; refine (num_any _ _).mono ?_; rintro e w3 ⟨rfl, rfl⟩) | (go_at_call 50; refine (k2.out _ _ hr2d).mono ?_; rintro e w4 ⟨rfl, o4, nv4, kv4, qv4, hr4, fr4⟩; have hg4 := (hg2.below (Below.refl _ _).drew).fr fr4 (by omega); have hf4 := (hf2.below (Below.refl _ _).drew).fr fr4 (by omega); have x4 : Blk w4 w.heap.size 33 _ := x2.keep (fr4.block _ x2.lt (by rw [fr2.tags _ hlt0, hcl]; exact fun e => by cases e)); have d3 := hg4.wc; have z3 := x4.cell (k := 1) (u := .int .i64 a) rfl))
  all_goals
    have fx4 := (fx2.below (Below.refl _ _).drew).trans (fr4.toX (by omega))
    clear d0 d1 d3 z1 z3
    go_wp2
    go_ret2
    exact ⟨E, rfl, o4, sv2, rv2, nv4, kv4, qv4, m', M', ⟨hg4, hf4, hr4⟩, hok'.out, fx4⟩

set_option maxRecDepth 100000 in
set_option maxHeartbeats 4000000 in
theorem works_output (h : Trio p o w gb fb wb ls ts lv tv m sv rv M nv kv qv) (hok : Ok m M B) (hB : B ≤ 10000000) (x : St) (hs : x.s.size ≤ 10000000) (hx : x.kind = 6) :
    Calls Tryz.prog 24 #[.pointer (some ⟨gb, 0, none⟩), x.val] w fun r w' => ∃ e, r = .returned (.tuple #[.int .i64 e, .int .i64 e]) ∧ ∃ o' sv' rv' nv' kv' qv' m' M', Trio p o' w' gb fb wb ls ts lv tv m' sv' rv' M' nv' kv' qv' ∧ Ok m' M' (B + x.s.size + 1) ∧ FrX p o w o' w' := by
  obtain ⟨kind, a, s, ⟨ch, dyn, mn, mx, mr, tmo, bl⟩, t⟩ := x
  simp only at hx hs
  subst hx
  simp only [St.val]
  have hsm := hok.small
  have _hB2 := hB
  have hsim := hok.sim
  have k1 : Hid (∀ w', FMem o (p + 1) w' fb m sv rv → Calls Tryz.prog 51 #[.pointer (some ⟨fb, 0, none⟩), .int .i64 a, .string s] w' fun r w'' => r = .returned (.int .i64 (m.stE a 3)) ∧ ∃ o' sv' rv', FMem o' (p + 1) w'' fb (m.afterOutput a s) sv' rv' ∧ Fr (p + 1) o w' o' w'') := fun w' h' => by
    refine (output_any h' (by omega) a s (by omega) (S := 208 * B) (by omega) (fun c hc => hsm.sent c hc) hsim.fair.1).mono ?_
    rintro r w'' ⟨e, o'', sv', h1, h2⟩
    exact ⟨e, o'', sv', rv, h1, h2⟩
  have k2 : Hid (∀ o' w', RMem o' (p + 2) w' wb M nv kv qv → Calls Tryz.prog 52 #[.pointer (some ⟨wb, 0, none⟩), .int .i64 a, .string s] w' fun r w'' => r = .returned (.int .i64 (m.stE a 3)) ∧ ∃ o'' nv' kv' qv', RMem o'' (p + 2) w'' wb (M.afterOutput a s) nv' kv' qv' ∧ Fr (p + 2) o' w' o'' w'') := fun o' w' h' => by
    refine (rOutput_any h' (by omega) hok.good.wf (by have := hok.good.queue; omega) a s (by omega) (S := B) (by omega) (fun c _ => hok.good.sent c) hsim.fair.2).mono ?_
    rintro r w'' ⟨e, o'', nv', h1, h2⟩
    rw [stE_same hsim]
    exact ⟨e, o'', nv', kv, qv, h1, h2⟩
  have hok' : Hid (Ok (m.afterOutput a s) (M.afterOutput a s) (B + s.size + 1)) := (hok.afterOutput a s).mono (by omega)
  clear hok hsm hsim hB hs _hB2
  generalize m.afterOutput a s = m' at *
  generalize M.afterOutput a s = M' at *
  generalize m.stE a 3 = E at *
  have hb0 : Below w.heap.size w (w.alloc (.cells #[.int .i64 6, .int .i64 a, .string s, .int .i64 ch, .bool dyn, .int .i64 mn, .int .i64 mx, .int .i64 mr, .int .i64 tmo, .int .i64 bl, .int .i64 t] 33)) := (Below.refl _ _).alloc (Nat.le_refl _) _
  have x0 := Blk.made w 33 [.int .i64 6, .int .i64 a, .string s, .int .i64 ch, .bool dyn, .int .i64 mn, .int .i64 mx, .int .i64 mr, .int .i64 tmo, .int .i64 bl, .int .i64 t]
  have hcl := h.f.clean _ (Nat.le_refl w.heap.size)
  go_enter Tryz.func24, Tryz.ntmps24
  go_wp2_with fail
  have x1 : Blk (w.alloc (.cells #[.int .i64 6, .int .i64 a, .string s, .int .i64 ch, .bool dyn, .int .i64 mn, .int .i64 mx, .int .i64 mr, .int .i64 tmo, .int .i64 bl, .int .i64 t] 33)) w.heap.size 33 [.int .i64 6, .int .i64 a, .string s, .int .i64 ch, .bool dyn, .int .i64 mn, .int .i64 mx, .int .i64 mr, .int .i64 tmo, .int .i64 bl, .int .i64 t] := x0
  have hT := h.below hb0
  have fx0 := FrX.of_below (p := p) h.f.clean hb0
  clear x0 h
  generalize w.alloc (.cells #[.int .i64 6, .int .i64 a, .string s, .int .i64 ch, .bool dyn, .int .i64 mn, .int .i64 mx, .int .i64 mr, .int .i64 tmo, .int .i64 bl, .int .i64 t] 33) = w0 at *
  have c0 := hT.g.fc
  have y1 := x1.cell (k := 1) (u := .int .i64 a) rfl
  have y2 := x1.cell (k := 2) (u := .string s) rfl
  have hTd := hT.below (Below.refl _ _).drew
  have hlt0 : w.heap.size < w0.drew.heap.size := x1.lt
  go_region_held3 (fun w' => w'.cell? ⟨gb, 0, none⟩ = some (.pointer (some ⟨fb, 0, none⟩)) ∧ w'.cell? ⟨w.heap.size, 1, none⟩ = some (.int .i64 a) ∧ w'.cell? ⟨w.heap.size, 2, none⟩ = some (.string s)) (first | exact ⟨c0, y1, y2⟩ | exact ⟨d0, z1, z2⟩) (first | (go_at_call 51; refine (k1.out _ hTd.f).mono ?_; rintro e w2 ⟨rfl, o2, sv2, rv2, hf2, fr2⟩; have hg2 := hTd.g.fr fr2 (by omega); have hr2 := hTd.r.fr fr2 (by omega); have x2 : Blk w2 w.heap.size 33 _ := x1.keep (fr2.block _ x1.lt (by rw [hcl]; exact fun e => by cases e)); have d0 := hg2.fc; have z1 := x2.cell (k := 1) (u := .int .i64 a) rfl; have z2 := x2.cell (k := 2) (u := .string s) rfl))
  have fx2 := (fx0.below (Below.refl _ _).drew).trans (fr2.toX (by omega))
  have d1 := hg2.wc
  clear c0 y1 y2 hTd hT x1 k1 hb0
  go_wp2_with fail
  have hr2d := hr2.below (Below.refl _ _).drew
  go_region_held3 (fun w' => w'.cell? ⟨gb, 1, none⟩ = some (.pointer (some ⟨wb, 0, none⟩)) ∧ w'.cell? ⟨w.heap.size, 1, none⟩ = some (.int .i64 a) ∧ w'.cell? ⟨w.heap.size, 2, none⟩ = some (.string s)) (first | exact ⟨d1, z1, z2⟩ | exact ⟨d3, z3, z4⟩) (first | (go_at_call 15; refine (num_any _ _).mono ?_; rintro e w3 ⟨rfl, rfl⟩) | (go_at_call 52; refine (k2.out _ _ hr2d).mono ?_; rintro e w4 ⟨rfl, o4, nv4, kv4, qv4, hr4, fr4⟩; have hg4 := (hg2.below (Below.refl _ _).drew).fr fr4 (by omega); have hf4 := (hf2.below (Below.refl _ _).drew).fr fr4 (by omega); have x4 : Blk w4 w.heap.size 33 _ := x2.keep (fr4.block _ x2.lt (by rw [fr2.tags _ hlt0, hcl]; exact fun e => by cases e)); have d3 := hg4.wc; have z3 := x4.cell (k := 1) (u := .int .i64 a) rfl; have z4 := x4.cell (k := 2) (u := .string s) rfl))
  all_goals
    have fx4 := (fx2.below (Below.refl _ _).drew).trans (fr4.toX (by omega))
    clear d0 d1 d3 z1 z2 z3 z4
    go_wp2
    go_ret2
    exact ⟨E, rfl, o4, sv2, rv2, nv4, kv4, qv4, m', M', ⟨hg4, hf4, hr4⟩, hok'.out, fx4⟩

set_option maxRecDepth 100000 in
set_option maxHeartbeats 4000000 in
theorem works_finished (h : Trio p o w gb fb wb ls ts lv tv m sv rv M nv kv qv) (hok : Ok m M B) (hB : B ≤ 10000000) (x : St) (hs : x.s.size ≤ 10000000) (hx : x.kind = 7) :
    Calls Tryz.prog 24 #[.pointer (some ⟨gb, 0, none⟩), x.val] w fun r w' => ∃ e, r = .returned (.tuple #[.int .i64 e, .int .i64 e]) ∧ ∃ o' sv' rv' nv' kv' qv' m' M', Trio p o' w' gb fb wb ls ts lv tv m' sv' rv' M' nv' kv' qv' ∧ Ok m' M' (B + x.s.size + 1) ∧ FrX p o w o' w' := by
  obtain ⟨kind, a, s, ⟨ch, dyn, mn, mx, mr, tmo, bl⟩, t⟩ := x
  simp only at hx hs
  subst hx
  simp only [St.val]
  have hsm := hok.small
  have _hB2 := hB
  have hsim := hok.sim
  have k1 : Hid (∀ w', FMem o (p + 1) w' fb m sv rv → Calls Tryz.prog 53 #[.pointer (some ⟨fb, 0, none⟩), .int .i64 a] w' fun r w'' => r = .returned (.int .i64 (m.stE a 3)) ∧ ∃ o' sv' rv', FMem o' (p + 1) w'' fb (m.afterFinished a) sv' rv' ∧ Fr (p + 1) o w' o' w'') := fun w' h' => by
    exact finished_any h' (by omega) a (fun c hc => by have := hsm.sent c hc; omega) (by have := hsm.req; omega) hsim.fair.1
  have k2 : Hid (∀ o' w', RMem o' (p + 2) w' wb M nv kv qv → Calls Tryz.prog 54 #[.pointer (some ⟨wb, 0, none⟩), .int .i64 a] w' fun r w'' => r = .returned (.int .i64 (m.stE a 3)) ∧ ∃ o'' nv' kv' qv', RMem o'' (p + 2) w'' wb (M.afterFinished a) nv' kv' qv' ∧ Fr (p + 2) o' w' o'' w'') := fun o' w' h' => by
    refine (rFinished_any h' hok.good.wf (by have := hok.good.queue; omega) a (fun c _ => by have := hok.good.sent c; omega) hsim.fair.2).mono ?_
    rintro r w'' ⟨e, o'', nv', h1, h2⟩
    rw [stE_same hsim]
    exact ⟨e, o'', nv', kv, qv, h1, h2⟩
  have hok' : Hid (Ok (m.afterFinished a) (M.afterFinished a) (B + s.size + 1)) := (hok.afterFinished a).mono (by omega)
  clear hok hsm hsim hB hs _hB2
  generalize m.afterFinished a = m' at *
  generalize M.afterFinished a = M' at *
  generalize m.stE a 3 = E at *
  have hb0 : Below w.heap.size w (w.alloc (.cells #[.int .i64 7, .int .i64 a, .string s, .int .i64 ch, .bool dyn, .int .i64 mn, .int .i64 mx, .int .i64 mr, .int .i64 tmo, .int .i64 bl, .int .i64 t] 33)) := (Below.refl _ _).alloc (Nat.le_refl _) _
  have x0 := Blk.made w 33 [.int .i64 7, .int .i64 a, .string s, .int .i64 ch, .bool dyn, .int .i64 mn, .int .i64 mx, .int .i64 mr, .int .i64 tmo, .int .i64 bl, .int .i64 t]
  have hcl := h.f.clean _ (Nat.le_refl w.heap.size)
  go_enter Tryz.func24, Tryz.ntmps24
  go_wp2_with fail
  have x1 : Blk (w.alloc (.cells #[.int .i64 7, .int .i64 a, .string s, .int .i64 ch, .bool dyn, .int .i64 mn, .int .i64 mx, .int .i64 mr, .int .i64 tmo, .int .i64 bl, .int .i64 t] 33)) w.heap.size 33 [.int .i64 7, .int .i64 a, .string s, .int .i64 ch, .bool dyn, .int .i64 mn, .int .i64 mx, .int .i64 mr, .int .i64 tmo, .int .i64 bl, .int .i64 t] := x0
  have hT := h.below hb0
  have fx0 := FrX.of_below (p := p) h.f.clean hb0
  clear x0 h
  generalize w.alloc (.cells #[.int .i64 7, .int .i64 a, .string s, .int .i64 ch, .bool dyn, .int .i64 mn, .int .i64 mx, .int .i64 mr, .int .i64 tmo, .int .i64 bl, .int .i64 t] 33) = w0 at *
  have c0 := hT.g.fc
  have y1 := x1.cell (k := 1) (u := .int .i64 a) rfl
  have hTd := hT.below (Below.refl _ _).drew
  have hlt0 : w.heap.size < w0.drew.heap.size := x1.lt
  go_region_held3 (fun w' => w'.cell? ⟨gb, 0, none⟩ = some (.pointer (some ⟨fb, 0, none⟩)) ∧ w'.cell? ⟨w.heap.size, 1, none⟩ = some (.int .i64 a)) (first | exact ⟨c0, y1⟩ | exact ⟨d0, z1⟩) (first | (go_at_call 53; refine (k1.out _ hTd.f).mono ?_; rintro e w2 ⟨rfl, o2, sv2, rv2, hf2, fr2⟩; have hg2 := hTd.g.fr fr2 (by omega); have hr2 := hTd.r.fr fr2 (by omega); have x2 : Blk w2 w.heap.size 33 _ := x1.keep (fr2.block _ x1.lt (by rw [hcl]; exact fun e => by cases e)); have d0 := hg2.fc; have z1 := x2.cell (k := 1) (u := .int .i64 a) rfl))
  have fx2 := (fx0.below (Below.refl _ _).drew).trans (fr2.toX (by omega))
  have d1 := hg2.wc
  clear c0 y1 hTd hT x1 k1 hb0
  go_wp2_with fail
  have hr2d := hr2.below (Below.refl _ _).drew
  go_region_held3 (fun w' => w'.cell? ⟨gb, 1, none⟩ = some (.pointer (some ⟨wb, 0, none⟩)) ∧ w'.cell? ⟨w.heap.size, 1, none⟩ = some (.int .i64 a)) (first | exact ⟨d1, z1⟩ | exact ⟨d3, z3⟩) (first | (go_at_call 15; refine (num_any _ _).mono ?_; rintro e w3 ⟨rfl, rfl⟩) | (go_at_call 54; refine (k2.out _ _ hr2d).mono ?_; rintro e w4 ⟨rfl, o4, nv4, kv4, qv4, hr4, fr4⟩; have hg4 := (hg2.below (Below.refl _ _).drew).fr fr4 (by omega); have hf4 := (hf2.below (Below.refl _ _).drew).fr fr4 (by omega); have x4 : Blk w4 w.heap.size 33 _ := x2.keep (fr4.block _ x2.lt (by rw [fr2.tags _ hlt0, hcl]; exact fun e => by cases e)); have d3 := hg4.wc; have z3 := x4.cell (k := 1) (u := .int .i64 a) rfl))
  all_goals
    have fx4 := (fx2.below (Below.refl _ _).drew).trans (fr4.toX (by omega))
    clear d0 d1 d3 z1 z3
    go_wp2
    go_ret2
    exact ⟨E, rfl, o4, sv2, rv2, nv4, kv4, qv4, m', M', ⟨hg4, hf4, hr4⟩, hok'.out, fx4⟩

set_option maxRecDepth 100000 in
set_option maxHeartbeats 4000000 in
theorem works_died (h : Trio p o w gb fb wb ls ts lv tv m sv rv M nv kv qv) (hok : Ok m M B) (hB : B ≤ 10000000) (x : St) (hs : x.s.size ≤ 10000000) (hx : x.kind = 8) :
    Calls Tryz.prog 24 #[.pointer (some ⟨gb, 0, none⟩), x.val] w fun r w' => ∃ e, r = .returned (.tuple #[.int .i64 e, .int .i64 e]) ∧ ∃ o' sv' rv' nv' kv' qv' m' M', Trio p o' w' gb fb wb ls ts lv tv m' sv' rv' M' nv' kv' qv' ∧ Ok m' M' (B + x.s.size + 1) ∧ FrX p o w o' w' := by
  obtain ⟨kind, a, s, ⟨ch, dyn, mn, mx, mr, tmo, bl⟩, t⟩ := x
  simp only at hx hs
  subst hx
  simp only [St.val]
  have hsm := hok.small
  have _hB2 := hB
  have hsim := hok.sim
  have k1 : Hid (∀ w', FMem o (p + 1) w' fb m sv rv → Calls Tryz.prog 55 #[.pointer (some ⟨fb, 0, none⟩), .int .i64 a] w' fun r w'' => r = .returned (.int .i64 (m.diedE a)) ∧ ∃ o' sv' rv', FMem o' (p + 1) w'' fb (m.afterDied a) sv' rv' ∧ Fr (p + 1) o w' o' w'') := fun w' h' => by
    exact died_any h' (by omega) a (fun c hc => by have := hsm.sent c hc; omega) (by have := hsm.req; omega) hsim.fair.1
  have k2 : Hid (∀ o' w', RMem o' (p + 2) w' wb M nv kv qv → Calls Tryz.prog 56 #[.pointer (some ⟨wb, 0, none⟩), .int .i64 a] w' fun r w'' => r = .returned (.int .i64 (m.diedE a)) ∧ ∃ o'' nv' kv' qv', RMem o'' (p + 2) w'' wb (M.afterDied a) nv' kv' qv' ∧ Fr (p + 2) o' w' o'' w'') := fun o' w' h' => by
    refine (rDied_any h' hok.good.wf (by have := hok.good.queue; omega) a (fun c _ => by have := hok.good.sent c; omega) hsim.fair.2).mono ?_
    rintro r w'' ⟨e, o'', nv', h1, h2⟩
    rw [diedE_same hsim]
    exact ⟨e, o'', nv', kv, qv, h1, h2⟩
  have hok' : Hid (Ok (m.afterDied a) (M.afterDied a) (B + s.size + 1)) := (hok.afterDied a).mono (by omega)
  clear hok hsm hsim hB hs _hB2
  generalize m.afterDied a = m' at *
  generalize M.afterDied a = M' at *
  generalize m.diedE a = E at *
  have hb0 : Below w.heap.size w (w.alloc (.cells #[.int .i64 8, .int .i64 a, .string s, .int .i64 ch, .bool dyn, .int .i64 mn, .int .i64 mx, .int .i64 mr, .int .i64 tmo, .int .i64 bl, .int .i64 t] 33)) := (Below.refl _ _).alloc (Nat.le_refl _) _
  have x0 := Blk.made w 33 [.int .i64 8, .int .i64 a, .string s, .int .i64 ch, .bool dyn, .int .i64 mn, .int .i64 mx, .int .i64 mr, .int .i64 tmo, .int .i64 bl, .int .i64 t]
  have hcl := h.f.clean _ (Nat.le_refl w.heap.size)
  go_enter Tryz.func24, Tryz.ntmps24
  go_wp2_with fail
  have x1 : Blk (w.alloc (.cells #[.int .i64 8, .int .i64 a, .string s, .int .i64 ch, .bool dyn, .int .i64 mn, .int .i64 mx, .int .i64 mr, .int .i64 tmo, .int .i64 bl, .int .i64 t] 33)) w.heap.size 33 [.int .i64 8, .int .i64 a, .string s, .int .i64 ch, .bool dyn, .int .i64 mn, .int .i64 mx, .int .i64 mr, .int .i64 tmo, .int .i64 bl, .int .i64 t] := x0
  have hT := h.below hb0
  have fx0 := FrX.of_below (p := p) h.f.clean hb0
  clear x0 h
  generalize w.alloc (.cells #[.int .i64 8, .int .i64 a, .string s, .int .i64 ch, .bool dyn, .int .i64 mn, .int .i64 mx, .int .i64 mr, .int .i64 tmo, .int .i64 bl, .int .i64 t] 33) = w0 at *
  have c0 := hT.g.fc
  have y1 := x1.cell (k := 1) (u := .int .i64 a) rfl
  have hTd := hT.below (Below.refl _ _).drew
  have hlt0 : w.heap.size < w0.drew.heap.size := x1.lt
  go_region_held3 (fun w' => w'.cell? ⟨gb, 0, none⟩ = some (.pointer (some ⟨fb, 0, none⟩)) ∧ w'.cell? ⟨w.heap.size, 1, none⟩ = some (.int .i64 a)) (first | exact ⟨c0, y1⟩ | exact ⟨d0, z1⟩) (first | (go_at_call 55; refine (k1.out _ hTd.f).mono ?_; rintro e w2 ⟨rfl, o2, sv2, rv2, hf2, fr2⟩; have hg2 := hTd.g.fr fr2 (by omega); have hr2 := hTd.r.fr fr2 (by omega); have x2 : Blk w2 w.heap.size 33 _ := x1.keep (fr2.block _ x1.lt (by rw [hcl]; exact fun e => by cases e)); have d0 := hg2.fc; have z1 := x2.cell (k := 1) (u := .int .i64 a) rfl))
  have fx2 := (fx0.below (Below.refl _ _).drew).trans (fr2.toX (by omega))
  have d1 := hg2.wc
  clear c0 y1 hTd hT x1 k1 hb0
  go_wp2_with fail
  have hr2d := hr2.below (Below.refl _ _).drew
  go_region_held3 (fun w' => w'.cell? ⟨gb, 1, none⟩ = some (.pointer (some ⟨wb, 0, none⟩)) ∧ w'.cell? ⟨w.heap.size, 1, none⟩ = some (.int .i64 a)) (first | exact ⟨d1, z1⟩ | exact ⟨d3, z3⟩) (first | (go_at_call 15; refine (num_any _ _).mono ?_; rintro e w3 ⟨rfl, rfl⟩) | (go_at_call 56; refine (k2.out _ _ hr2d).mono ?_; rintro e w4 ⟨rfl, o4, nv4, kv4, qv4, hr4, fr4⟩; have hg4 := (hg2.below (Below.refl _ _).drew).fr fr4 (by omega); have hf4 := (hf2.below (Below.refl _ _).drew).fr fr4 (by omega); have x4 : Blk w4 w.heap.size 33 _ := x2.keep (fr4.block _ x2.lt (by rw [fr2.tags _ hlt0, hcl]; exact fun e => by cases e)); have d3 := hg4.wc; have z3 := x4.cell (k := 1) (u := .int .i64 a) rfl))
  all_goals
    have fx4 := (fx2.below (Below.refl _ _).drew).trans (fr4.toX (by omega))
    clear d0 d1 d3 z1 z3
    go_wp2
    go_ret2
    exact ⟨E, rfl, o4, sv2, rv2, nv4, kv4, qv4, m', M', ⟨hg4, hf4, hr4⟩, hok'.out, fx4⟩
end
end Go.Proofs.YtlafkpaljibonaaGreat
