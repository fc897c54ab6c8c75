import Derived.Test.YtlafkpaljibonabJ6
import Derived.Test.YtlafkpaljibonabJ9
namespace Go.Proofs.Ytlafkpaljibonab
open Go.RowKit

/-- Nothing is to be started, and nobody is Idle. -/
structure PM.calm (m : PM) : Prop where
  dyn : m.set.dyn = false
  used : m.set.ch ≤ m.usedTo 6
  idle : ∀ k, k < 6 → (m.slot k).st ≠ 2

theorem startTo_full (m : PM) {u : Int} (h : m.set.ch ≤ u) : ∀ k, startTo m u k = (m, u)
  | 0 => rfl
  | k + 1 => by
    have ih := startTo_full m h k
    have e : startTo m u (k + 1) = cond (decide ((startTo m u k).2 < m.set.ch) && ((startTo m u k).1.slot k).st == 0) ({ (startTo m u k).1 with slot := upd (startTo m u k).1.slot k (newSlot 1) }, (startTo m u k).2 + 1) (startTo m u k) := rfl
    rw [e, ih, decide_eq_false (by simp only []; omega)]
    rfl

theorem leaseTo_none (m : PM) (h : ∀ k, k < 6 → (m.slot k).st ≠ 2) : ∀ k, k ≤ 6 → m.leaseTo k = m
  | 0, _ => rfl
  | k + 1, hk => by
    have ih := leaseTo_none m h k (by omega)
    have e : m.leaseTo (k + 1) = (m.leaseTo k).leaseAt k := rfl
    rw [e, ih]
    unfold PM.leaseAt
    have hs : ((m.slot k).st == 2) = false := by simpa using h k (by omega)
    rw [hs]
    cases m.fw <;> rfl

theorem PM.calm.settle {m : PM} (h : m.calm) : m.settle = m := by
  unfold PM.settle PM.leaseWaiting PM.startMissing
  rw [h.dyn, startTo_full m h.used]
  exact leaseTo_none m h.idle 6 (Nat.le_refl _)

theorem PM.setRest_same (m : PM) (k : Nat) (s : ByteArray) (h : (m.con k).rest = s) : m.setRest k s = m := by
  unfold PM.setRest
  have : upd m.con k { m.con k with rest := s } = m.con := by
    funext j
    simp only [upd]
    split
    · rename_i e; subst e; rw [← h]
    · rfl
  rw [this]

theorem left_end (s : ByteArray) : left s s.size = ⟨#[]⟩ := by
  unfold left
  apply ByteArray.ext
  simp

theorem left_zero (s : ByteArray) : left s 0 = s := by
  unfold left
  simp

/-- One whole record comes, and nothing was held back. -/
theorem PM.feed_one (m : PM) (k : Nat) (hr : (m.con k).rest = ⟨#[]⟩) (s : ByteArray) (h2 : rcode true s = 2) (hz : sizeT s = s.size) (hag : m.again k (recT s).2.1 (recT s).1 = false) :
    m.feed k s = ((m.take k (recT s)).settle).setRest k ⟨#[]⟩ := by
  obtain ⟨h8, -⟩ := rcode_two h2
  unfold PM.feed
  rw [hr, nil_ba]
  have e1 : PM.takeAll k s (s.size + 1) m 0 = PM.takeAll k s s.size ((m.take k (recT s)).settle) (0 + s.size) := by
    show (if rcode true (left s 0) = 0 then _ else if rcode true (left s 0) = 1 then _ else _) = _
    rw [left_zero, h2, if_neg (by omega), if_neg (by omega), hag, hz]
    rfl
  obtain ⟨f, hf⟩ : ∃ f, s.size = f + 1 := ⟨s.size - 1, by omega⟩
  have e2 : ∀ (M : PM), PM.takeAll k s s.size M s.size = M.setRest k ⟨#[]⟩ := by
    intro M
    have h0 : rcode true (left s s.size) = 0 := by
      unfold rcode
      rw [if_pos]
      rw [left_size]; omega
    rw [show PM.takeAll k s s.size M s.size = PM.takeAll k s (f + 1) M s.size from by rw [← hf]]
    show (if rcode true (left s s.size) = 0 then M.setRest k (left s s.size) else _) = _
    rw [if_pos h0, left_end]
  rw [e1, Nat.zero_add, e2]

/-- A record's bytes, as a client may send them. -/
theorem enc_rcode (r : Rec) (p : List Int) (hg : Good r p) (hw : wrongB r.1 r.2.2.size = false) : rcode true (enc r.1 r.2.1 r.2.2 p) = 2 ∧ recT (enc r.1 r.2.1 r.2.2 p) = r ∧ sizeT (enc r.1 r.2.1 r.2.2 p) = (enc r.1 r.2.1 r.2.2 p).size := by
  have e : enc r.1 r.2.1 r.2.2 p = strOfNums (encL r p) := rfl
  rw [e]
  have h := step_enc r p [] hg
  rw [List.append_nil] at h
  obtain ⟨h1, h2, h3⟩ := h
  have ht := take8_enc r p []
  rw [List.append_nil] at ht
  obtain ⟨e1, -, e3, -, -⟩ := head_enc r p (encL r p) hg ht
  refine ⟨?_, h2, by rw [h3, strOfNums_size]⟩
  rw [← h1]
  unfold rcode code stopT wrongT
  rw [e1, e3, hw]
  simp

theorem findFrom_last (c i : Int) (x : Req) : ∀ (l : List Req) (k : Nat), (∀ r ∈ l, isKey c i r = false) → isKey c i x = true → findFrom c i (l ++ [x]) k = some (k + l.length)
  | [], k, _, hx => by
    show cond (isKey c i x) (some k) _ = _
    rw [hx]; rfl
  | r :: l, k, h, hx => by
    show cond (isKey c i r) (some k) (findFrom c i (l ++ [x]) (k + 1)) = _
    rw [h r (by simp), cond_false, findFrom_last c i x l (k + 1) (fun y hy => h y (by simp [hy])) hx]
    simp only [List.length_cons]
    congr 1
    omega

theorem findFrom_nobody (c i : Int) : ∀ (l : List Req) (k : Nat), (∀ r ∈ l, isKey c i r = false) → findFrom c i l k = none
  | [], _, _ => rfl
  | r :: l, k, h => by
    show cond (isKey c i r) (some k) (findFrom c i l (k + 1)) = _
    rw [h r (by simp), cond_false, findFrom_nobody c i l (k + 1) (fun y hy => h y (by simp [hy]))]

/-- The same foreman with other requests. -/
def PM.withReq (m : PM) (l : List Req) : PM := { m with req := l }

theorem PM.calm.withReq {m : PM} (h : m.calm) (l : List Req) : (m.withReq l).calm :=
  ⟨h.dyn, h.used, h.idle⟩

section
variable {m : PM} {W : List Req} {c : Nat} {i : Int}

theorem feedBegin (hc : m.calm) (hr : (m.con c).rest = ⟨#[]⟩) (hno : ∀ r ∈ W, isKey c i r = false) (hi : 1 ≤ i ∧ i ≤ 65535) (hkeys : (W.filter fun r => r.conn == (c : Int)).length < 4) :
    (m.withReq W).feed c (enc 1 i ⟨#[1]⟩ []) = m.withReq (W ++ [newReq c i]) := by
  obtain ⟨h1, h2, h3⟩ := enc_rcode (1, i, ⟨#[1]⟩) [] ⟨by simp [allowedB, isKindB, ByteArray.size]; omega, by simp⟩ rfl
  have h1 : rcode true (enc 1 i ⟨#[1]⟩ []) = 2 := h1
  have h2 : recT (enc 1 i ⟨#[1]⟩ []) = (1, i, ⟨#[1]⟩) := h2
  have h3 : sizeT (enc 1 i ⟨#[1]⟩ []) = (enc 1 i ⟨#[1]⟩ []).size := h3
  have hf : (m.withReq W).find c i = none := findFrom_nobody c i W 0 hno
  have hag : (m.withReq W).again c (recT (enc 1 i ⟨#[1]⟩ [])).2.1 (recT (enc 1 i ⟨#[1]⟩ [])).1 = false := by
    rw [h2]
    unfold PM.again
    rw [hf]; rfl
  rw [PM.feed_one (m.withReq W) c hr _ h1 h3 hag, h2]
  have ht : (m.withReq W).take c (1, i, ⟨#[1]⟩) = m.withReq (W ++ [newReq c i]) := by
    unfold PM.take
    rw [if_pos rfl]
    unfold PM.begin_
    have e1 : ((⟨#[1]⟩ : ByteArray).toList == [1]) = true := by rw [ByteArray.toList_eq]; rfl
    have e2 : decide (((m.withReq W).keysOf c).length ≥ 4) = false := by
      rw [decide_eq_false]
      unfold PM.keysOf
      rw [List.length_map]
      show ¬ (W.filter fun r => r.conn == (c : Int)).length ≥ 4
      omega
    simp only []
    rw [e1, e2]
    rfl
  rw [ht, (hc.withReq _).settle]
  exact PM.setRest_same _ _ _ hr

theorem feedIn (hc : m.calm) (hr : (m.con c).rest = ⟨#[]⟩) (hno : ∀ r ∈ W, isKey c i r = false) (hi : 1 ≤ i ∧ i ≤ 65535) (b t : ByteArray) (ht0 : 0 < t.size) (ht : t.size ≤ 200) (hb : b.size + t.size ≤ 500) (p : List Int) (hp : p.length ≤ 7) :
    (m.withReq (W ++ [⟨c, i, 0, b⟩])).feed c (enc 5 i t p) = m.withReq (W ++ [⟨c, i, 0, b ++ t⟩]) := by
  obtain ⟨h1, h2, h3⟩ := enc_rcode (5, i, t) p ⟨by simp [allowedB, isKindB]; omega, hp⟩ rfl
  have h1 : rcode true (enc 5 i t p) = 2 := h1
  have h2 : recT (enc 5 i t p) = (5, i, t) := h2
  have h3 : sizeT (enc 5 i t p) = (enc 5 i t p).size := h3
  have hf : (m.withReq (W ++ [⟨c, i, 0, b⟩])).find c i = some W.length := by
    have := findFrom_last c i ⟨c, i, 0, b⟩ W 0 hno (by simp [isKey])
    rw [Nat.zero_add] at this
    exact this
  have hag : (m.withReq (W ++ [⟨c, i, 0, b⟩])).again c (recT (enc 5 i t p)).2.1 (recT (enc 5 i t p)).1 = false := by
    rw [h2]
    unfold PM.again
    rw [hf]; rfl
  rw [PM.feed_one (m.withReq (W ++ [(⟨c, i, 0, b⟩ : Req)])) c hr _ h1 h3 hag, h2]
  have htk : (m.withReq (W ++ [⟨c, i, 0, b⟩])).take c (5, i, t) = m.withReq (W ++ [⟨c, i, 0, b ++ t⟩]) := by
    unfold PM.take
    rw [if_neg (by simp), if_pos rfl]
    simp only [PM.in_, hf]
    have hg : (m.withReq (W ++ [⟨c, i, 0, b⟩])).req.getD W.length noReq = ⟨c, i, 0, b⟩ := by simp [PM.withReq, List.getD]
    rw [hg]
    unfold PM.inAt
    have e1 : (t.toList == []) = false := by rw [ba_nil_iff]; exact decide_eq_false (by omega)
    have e2 : decide (500 < (b ++ t).size) = false := by rw [decide_eq_false]; rw [ByteArray.size_append]; omega
    simp only []
    rw [e1, e2]
    simp [PM.withReq]
  rw [htk, (hc.withReq _).settle]
  exact PM.setRest_same _ _ _ hr

theorem feedEnd (hc : m.calm) (hr : (m.con c).rest = ⟨#[]⟩) (hno : ∀ r ∈ W, isKey c i r = false) (hi : 1 ≤ i ∧ i ≤ 65535) (b : ByteArray) (hroom : ((W.filter fun r => r.stage == 1).length : Int) < m.set.bl) :
    (m.withReq (W ++ [⟨c, i, 0, b⟩])).feed c (enc 5 i ⟨#[]⟩ []) = m.withReq (W ++ [⟨c, i, 1, b⟩]) := by
  obtain ⟨h1, h2, h3⟩ := enc_rcode (5, i, ⟨#[]⟩) [] ⟨by simp [allowedB, isKindB, ByteArray.size]; omega, by simp⟩ rfl
  have h1 : rcode true (enc 5 i ⟨#[]⟩ []) = 2 := h1
  have h2 : recT (enc 5 i ⟨#[]⟩ []) = (5, i, ⟨#[]⟩) := h2
  have h3 : sizeT (enc 5 i ⟨#[]⟩ []) = (enc 5 i ⟨#[]⟩ []).size := h3
  have hf : (m.withReq (W ++ [⟨c, i, 0, b⟩])).find c i = some W.length := by
    have := findFrom_last c i ⟨c, i, 0, b⟩ W 0 hno (by simp [isKey])
    rw [Nat.zero_add] at this
    exact this
  have hag : (m.withReq (W ++ [⟨c, i, 0, b⟩])).again c (recT (enc 5 i ⟨#[]⟩ [])).2.1 (recT (enc 5 i ⟨#[]⟩ [])).1 = false := by
    rw [h2]
    unfold PM.again
    rw [hf]; rfl
  rw [PM.feed_one (m.withReq (W ++ [(⟨c, i, 0, b⟩ : Req)])) c hr _ h1 h3 hag, h2]
  have htk : (m.withReq (W ++ [⟨c, i, 0, b⟩])).take c (5, i, ⟨#[]⟩) = m.withReq (W ++ [⟨c, i, 1, b⟩]) := by
    unfold PM.take
    rw [if_neg (by simp), if_pos rfl]
    simp only [PM.in_, hf]
    have hg : (m.withReq (W ++ [⟨c, i, 0, b⟩])).req.getD W.length noReq = ⟨c, i, 0, b⟩ := by simp [PM.withReq, List.getD]
    rw [hg]
    unfold PM.inAt PM.enqueue
    have e1 : ((⟨#[]⟩ : ByteArray).toList == []) = true := by rw [ba_nil_iff]; rfl
    have hrm : (m.withReq (W ++ [⟨c, i, 0, b⟩])).room = true := by
      unfold PM.room
      have hw : (m.withReq (W ++ [⟨c, i, 0, b⟩])).waits.length = (W.filter fun r => r.stage == 1).length := by
        unfold PM.waits PM.withReq
        simp [List.filter_append]
      rw [hw]
      have : decide (((W.filter fun r => r.stage == 1).length : Int) < (m.withReq (W ++ [⟨c, i, 0, b⟩])).set.bl) = true := decide_eq_true hroom
      rw [this, Bool.or_true]
    have hwo : withoutL (m.withReq (W ++ [⟨c, i, 0, b⟩])).req c i = W := by
      unfold withoutL PM.withReq
      rw [List.filter_append, List.filter_eq_self.2 (by intro r hr'; simp [hno r hr'])]
      simp [isKey]
    simp only []
    rw [e1, hrm, hwo]
    rfl
  rw [htk, (hc.withReq _).settle]
  exact PM.setRest_same _ _ _ hr

end
end Go.Proofs.Ytlafkpaljibonab

namespace Go.Proofs.Ytlafkpaljibonab
open Go.RowKit

/-- Nothing that came is held back. -/
def PM.Dry (m : PM) : Prop := ∀ j, (m.con j).rest = ⟨#[]⟩

section
variable {m m' : PM}

theorem PM.Dry.same (h : m.Dry) (hc : ConSame m m') : m'.Dry := fun j => (hc j).2.trans (h j)

theorem PM.Dry.close (h : m.Dry) (k : Nat) : (m.close k).Dry := by
  intro j
  rw [close_con]
  split
  · rfl
  · exact h j

theorem rcode_nil : rcode true ⟨#[]⟩ = 0 := by
  unfold rcode
  rw [if_pos]
  show ((0 : Nat) : Int) < 8
  omega

theorem PM.Dry.feed (h : m.Dry) (k : Nat) {s : ByteArray} (h2 : rcode true s = 2) (hz : sizeT s = s.size) : (m.feed k s).Dry := by
  have h8 := (rcode_two h2).2.2.2.2
  have e0 : (m.con k).rest ++ s = s := by rw [h k]; exact ByteArray.empty_append
  unfold PM.feed
  rw [e0]
  obtain ⟨f, hf⟩ : ∃ f, s.size = f + 1 := ⟨s.size - 1, by omega⟩
  rw [hf]
  have el : left s 0 = s := left_zero s
  unfold PM.takeAll
  rw [el, h2, if_neg (by omega), if_neg (by omega), hz]
  cases m.again k (recT s).2.1 (recT s).1
  · simp only [cond_false]
    unfold PM.takeAll
    rw [show left s (0 + s.size) = ⟨#[]⟩ from by rw [Nat.zero_add]; exact left_end s, rcode_nil, if_pos rfl]
    have h3 : ((m.take k (recT s)).settle).Dry := h.same ((ConSame.take m k _).trans (ConSame.settle _))
    intro j
    simp only [PM.setRest, upd]
    split
    · rfl
    · exact h3 j
  · exact h.close k

theorem recB_two (x : KSt) : rcode true x.recB = 2 ∧ sizeT x.recB = x.recB.size := by
  have p1 := pickI_bd x.c 6 (by omega)
  have p2 := pickI_bd (x.c.tdiv 6) 8 (by omega)
  have p3 := pickI_bd x.b 4 (by omega)
  have hs := shortB_le x.s 200
  have hp : x.pad ≤ 7 := by unfold KSt.pad; omega
  have key : ∀ (k : Int) (c : ByteArray), isKindB k = true → c.size ≤ 200 → wrongB k c.size = false → rcode true (enc k x.id c (padL x.pad)) = 2 ∧ sizeT (enc k x.id c (padL x.pad)) = (enc k x.id c (padL x.pad)).size := by
    intro k c hk hc hw
    have hi : 1 ≤ x.id ∧ x.id ≤ 65535 := by unfold KSt.id; omega
    have hg : Good (k, x.id, c) (padL x.pad) := by
      refine ⟨?_, by rw [padL_length]; exact hp⟩
      unfold allowedB
      simp only [hk, Bool.true_and, Bool.and_eq_true, decide_eq_true_eq]
      omega
    have := enc_rcode (k, x.id, c) (padL x.pad) hg hw
    exact ⟨this.1, this.2.2⟩
  unfold KSt.recB KSt.rk KSt.rc
  have hk : pickI x.b 4 = 0 ∨ pickI x.b 4 = 1 ∨ pickI x.b 4 = 2 ∨ pickI x.b 4 = 3 := by omega
  rcases hk with e | e | e | e
  · rw [e]; exact key 1 ⟨#[1]⟩ rfl (by decide) rfl
  · rw [e]; exact key 5 (shortB x.s 200) rfl hs rfl
  · rw [e]; exact key 5 ⟨#[]⟩ rfl (by decide) rfl
  · rw [e]; exact key 2 ⟨#[]⟩ rfl (by decide) rfl

theorem PM.Dry.doM (h : m.Dry) (x : KSt) : (m.doM x).Dry := by
  unfold PM.doM
  split
  · unfold PM.afterConnect
    cases (isC x.cn && !(m.con x.cn.toNat).op)
    · exact h
    · intro j
      simp only [cond_true, PM.connect, upd]
      split
      · rfl
      · exact h j
  split
  · unfold PM.afterHangup
    cases (m.chk x.cn == 0)
    · exact h
    · exact h.close _
  split
  · unfold PM.afterFeed
    cases (m.chk x.cn == 0)
    · exact h
    · exact h.feed _ (recB_two x).1 (recB_two x).2
  split
  · unfold PM.afterSpawned PM.spawned
    cases (m.stE x.sn 1 == 0)
    · exact h
    · refine h.same (ConSame.trans ?_ (ConSame.settle _))
      cases (m.slot x.sn.toNat).old <;> exact ConSame.refl _
  split
  · unfold PM.afterOutput PM.outputs PM.sendOut
    cases (m.stE x.sn 3 == 0)
    · exact h
    · refine h.same (ConSame.trans ?_ (ConSame.settle _))
      cases ((m.slot x.sn.toNat).conn != -1)
      · exact ConSame.refl _
      · exact ConSame.outN _ _ _ _ _
  split
  · unfold PM.afterFinished PM.finished PM.retires
    cases (m.stE x.sn 3 == 0)
    · exact h
    · refine h.same (ConSame.trans ((ConSame.endKeyOf m x.sn.toNat 0).trans ?_) (ConSame.settle _))
      cases (m.endKeyOf x.sn.toNat 0).mustGo x.sn.toNat <;> exact ConSame.refl _
  split
  · unfold PM.afterDied PM.died
    cases (m.diedE x.sn == 0)
    · exact h
    · have h1 : (m.endKeyOf x.sn.toNat 1).Dry := h.same (ConSame.endKeyOf m x.sn.toNat 1)
      have h2 : ((m.endKeyOf x.sn.toNat 1).empties x.sn.toNat).Dry := h1
      exact h2.same (ConSame.settle _)
  split
  · exact h.same ((ConSame.tickS m).trans (ConSame.settle _))
  · unfold PM.afterReload
    generalize setC x.set = c
    cases c.ok
    · exact h
    · have h1 : (m.withSet c).Dry := h
      have h2 : ((m.withSet c).agesTo 6).Dry := h1.same (ConSame.agesTo (m.withSet c) 6)
      have h3 : (((m.withSet c).agesTo 6).settle).Dry := h2.same (ConSame.settle _)
      rw [cond_true]
      unfold PM.reload
      exact h3

theorem PM.Dry.doTo (h : m.Dry) (X : Nat → KSt) : ∀ k, (m.doTo X k).Dry
  | 0 => h
  | k + 1 => (PM.Dry.doTo h X k).doM (X k)

theorem new_dry (c : Cfg) : (newPM c).Dry := by
  have h0 : (rawPM c).Dry := fun _ => rfl
  unfold newPM
  exact h0.same (ConSame.settle (rawPM c))

theorem wrongAt_le (j : Int) : (wrongAt j).size ≤ 300 := by
  unfold wrongAt
  repeat' split
  all_goals decide +kernel

theorem dry_connect (h : m.Dry) (k : Nat) : (m.afterConnect k).Dry := by
  unfold PM.afterConnect
  cases (isC (k : Int) && !(m.con (k : Int).toNat).op)
  · exact h
  · intro j
    simp only [cond_true, PM.connect, upd]
    split
    · rfl
    · exact h j

/-- Bytes that are none close their connection at once. -/
theorem feed_bad (h : m.Dry) (k : Nat) (j : Int) (t : ByteArray) : m.feed k (wrongAt j ++ t) = m.close k := by
  have e0 : (m.con k).rest ++ (wrongAt j ++ t) = wrongAt j ++ t := by rw [h k]; exact ByteArray.empty_append
  have hc : rcode true (wrongAt j) = 1 := by
    have := code_wrong j
    rw [← rcode_false] at this
    unfold rcode at this ⊢
    split at this
    · cases this
    · rename_i h8
      split at this
      · rename_i hs
        rw [if_neg h8, if_pos]
        simp only [stopT, Bool.false_and, Bool.or_false] at hs
        simp [stopT, hs]
      · split at this <;> cases this
  have hc2 : rcode true (wrongAt j ++ t) = 1 := by
    unfold rcode at hc ⊢
    split at hc
    · cases hc
    · rename_i h8
      split at hc
      · rename_i hs
        rw [if_neg (by rw [ByteArray.size_append]; omega), if_pos (by rw [stop_app true _ t (by omega)]; exact hs)]
      · split at hc <;> cases hc
  unfold PM.feed
  rw [e0]
  unfold PM.takeAll
  rw [left_zero, hc2, if_neg (by omega), if_pos rfl]

end
end Go.Proofs.Ytlafkpaljibonab

namespace Go.Proofs.Ytlafkpaljibonab
open Go.RowKit

set_option maxRecDepth 100000 in
set_option maxHeartbeats 8000000 in
theorem alone_any (c : Cfg) (hc : c.in64) (aX : Option Addr) (nX cX : Nat) (X : Nat → KSt) (conn bad : Int) (hconn : i64R conn) (hbad : i64R bad) (s : ByteArray) (hs : s.size ≤ 1048576) (aY : Option Addr) (nY cY : Nat) (Y : Nat → KSt) (w : World)
    (hX : IsKSteps w aX nX X) (hX64 : ∀ k, k < nX → (X k).in64) (hY : IsKSteps w aY nY Y) (hY64 : ∀ k, k < nY → (Y k).in64) (hsum : ktot X nX + ktot Y nY ≤ 40000000) :
    Calls Try.prog 3 #[c.val, .slice aX nX cX, .int .i64 conn, .int .i64 bad, .string s, .slice aY nY cY] w fun r w' => r = .returned (.bool true) ∧ Below w.heap.size w w' := by
  have kS : Hid (∀ w', Calls Try.prog 5 #[c.val] w' fun r w'' => r = .returned (setC c).val ∧ Below w'.heap.size w' w'') := fun w' => settings_any c hc w'
  have kO : Hid (∀ (q : Nat) (o : Nat → Tag) w', Clean o w' → Calls Try.prog 6 #[(setC c).val] w' fun r w'' => ∃ b o', r = .returned (.pointer (some ⟨b, 0, none⟩)) ∧ FMem o' q w'' b (newPM (setC c)) nilV (.slice none 0 0) ∧ Fr q o w' o' w'') := fun q o w' ho => opened_any (setC c) (setC_ok c) ho
  have hF0 : (newPM (setC c)).Fit 0 := new_fit _
  have hD0 : (newPM (setC c)).Dry := new_dry _
  have kW : Hid (∀ w', Calls Try.prog 11 #[.int .i64 bad] w' fun r w'' => r = .returned (.string (wrongAt (pickI bad 9))) ∧ Below w'.heap.size w' w'') := fun w' => wrong_any bad w' hbad.1 hbad.2
  have hwz : (wrongAt (pickI bad 9)).size ≤ 300 := wrongAt_le _
  have hgX := ktot_ge X nX
  have hgY := ktot_ge Y nY
  generalize newPM (setC c) = m0 at *
  generalize setC c = SC at *
  have hpk := pickI_bd conn 4 (by omega)
  obtain ⟨k, hk⟩ : ∃ k : Nat, pickI conn 4 = k := ⟨(pickI conn 4).toNat, by omega⟩
  have hk4 : k < 4 := by omega
  have kP : Hid (∀ w', Calls Try.prog 7 #[.int .i64 conn, .int .i64 4] w' fun r w'' => r = .returned (.int .i64 (k : Nat)) ∧ w'' = w') := fun w' => by
    have := pick_any conn 4 w' hconn.1 hconn.2 (by omega) (by omega)
    rw [hk] at this; exact this
  clear hpk hk
  unfold Cfg.val at *
  have hb0 : Below w.heap.size w (w.alloc (.cells #[.int .i64 c.ch, .bool c.dyn, .int .i64 c.mn, .int .i64 c.mx, .int .i64 c.mr, .int .i64 c.tmo, .int .i64 c.bl] 23)) := (Below.refl _ _).alloc (Nat.le_refl _) _
  go_enter Try.func3, Try.ntmps3
  go_wp2_with fail
  refine (kS.out _).mono ?_
  rintro e w1 ⟨rfl, hb1⟩
  have hb01 := hb0.trans (hb1.mono hb0.size)
  have hbx : Below w1.heap.size w1 (w1.alloc (.cells #[.int .i64 SC.ch, .bool SC.dyn, .int .i64 SC.mn, .int .i64 SC.mx, .int .i64 SC.mr, .int .i64 SC.tmo, .int .i64 SC.bl] 23)) := (Below.refl _ _).alloc (Nat.le_refl _) _
  have x0 := Blk.made w1 23 SC.cells
  have hb2 := hb01.trans (hbx.mono hb01.size)
  clear hb0 hb1
  go_wp2_with fail
  have x1 : Blk (w1.alloc (.cells #[.int .i64 SC.ch, .bool SC.dyn, .int .i64 SC.mn, .int .i64 SC.mx, .int .i64 SC.mr, .int .i64 SC.tmo, .int .i64 SC.bl] 23)) w1.heap.size 23 SC.cells := x0
  clear x0 hbx
  generalize w1.alloc (.cells #[.int .i64 SC.ch, .bool SC.dyn, .int .i64 SC.mn, .int .i64 SC.mx, .int .i64 SC.mr, .int .i64 SC.tmo, .int .i64 SC.bl] 23) = w2 at *
  refine (kO.out 1 noK _ (fun _ _ => rfl)).mono ?_
  rintro e w3 ⟨fb, o3, rfl, hm3, fr3⟩
  have x3 := x1.keep (fr3.block _ x1.lt (by simp [noK]))
  have d0 := x3.cell (k := 0) (u := .int .i64 SC.ch) rfl
  have d1 := x3.cell (k := 1) (u := .bool SC.dyn) rfl
  have d2 := x3.cell (k := 2) (u := .int .i64 SC.mn) rfl
  have d3 := x3.cell (k := 3) (u := .int .i64 SC.mx) rfl
  have d4 := x3.cell (k := 4) (u := .int .i64 SC.mr) rfl
  have d5 := x3.cell (k := 5) (u := .int .i64 SC.tmo) rfl
  have d6 := x3.cell (k := 6) (u := .int .i64 SC.bl) rfl
  go_wp2_with fail
  refine (kO.out 2 o3 _ hm3.clean).mono ?_
  rintro e w4 ⟨gb, o4, rfl, hm4, fr4⟩
  clear d0 d1 d2 d3 d4 d5 d6 x1 x3
  have pr0 : Pair o4 w4 fb gb m0 m0 := ⟨⟨_, _, hm3.fr fr4 (by omega)⟩, ⟨_, _, hm4⟩⟩
  have fx0 : FrN noK w o4 w4 := ((FrN.of_below (o := noK) (fun _ _ => rfl) hb2).trans (fr3.toN (by omega))).trans (fr4.toN (by omega))
  clear hm3 hm4 fr3 fr4 hb2 hb01 kO kS
  go_wp2_with fail
  refine (kP.out _).mono ?_
  rintro e w5 ⟨rfl, rfl⟩
  go_wp2
  go_loopw [17] (fun i w' => ∃ j : Nat, j ≤ nX ∧ i = .int .i64 j ∧ ∃ o', Pair o' w' fb gb (m0.doTo X j) (m0.doTo X j) ∧ FrN noK w o' w') (fun i _ => nX - (intOf i).toNat)
  case atStart => exact ⟨0, by omega, rfl, o4, pr0, fx0⟩
  case round =>
    obtain ⟨j, hj, rfl, o3, pr, fxr⟩ := hrel
    clear pr0 fx0
    by_cases hlt : j < nX
    · obtain ⟨bb, off, rfl, hcell⟩ : ∃ bb off, aX = some ⟨bb, off, none⟩ ∧ ∀ o' w', FrN noK w o' w' → ∀ i u, ((X j).cells)[i]? = some u → w'.cell? ⟨bb, off + j * 12 + i, none⟩ = some u := by
        rcases hX with e | ⟨bb, off, e, hbl, hc⟩
        · omega
        · exact ⟨bb, off, e, fun o' w' hf i u hu => by rw [World.cell?_of_block (hf.block bb hbl rfl)]; exact hc j hlt i u hu⟩
      have hjI : (j : Int) < nX := by omega
      have hFit : (m0.doTo X j).Fit (0 + ktot X j) := hF0.doTo X j
      have hkt := ktot_mono X (show j + 1 ≤ nX from hlt)
      have hkt' : ktot X (j + 1) = ktot X j + (X j).s.size + 520 := rfl
      have hx64 := hX64 j hlt
      have HD : Hid (m0.doTo X (j + 1) = (m0.doTo X j).doM (X j)) := rfl
      have D1 : Hid (∀ o' w', Pair o' w' fb gb (m0.doTo X j) (m0.doTo X j) → Calls Try.prog 8 #[.pointer (some ⟨fb, 0, none⟩), .agg (X j).cells.toArray] w' fun r w'' => r = .returned (.int .i64 ((m0.doTo X j).doE (X j))) ∧ ∃ o'', Pair o'' w'' fb gb ((m0.doTo X j).doM (X j)) (m0.doTo X j) ∧ FrN o' w' o'' w'') := fun o' w' h' => pair_do1 h' hFit (by omega) (X j) hx64 (by omega)
      have D2 : Hid (∀ o' w', Pair o' w' fb gb ((m0.doTo X j).doM (X j)) (m0.doTo X j) → Calls Try.prog 8 #[.pointer (some ⟨gb, 0, none⟩), .agg (X j).cells.toArray] w' fun r w'' => r = .returned (.int .i64 ((m0.doTo X j).doE (X j))) ∧ ∃ o'', Pair o'' w'' fb gb ((m0.doTo X j).doM (X j)) ((m0.doTo X j).doM (X j)) ∧ FrN o' w' o'' w'') := fun o' w' h' => pair_do2 h' hFit (by omega) (X j) hx64 (by omega)
      clear hFit hkt hkt' hx64
      generalize (m0.doTo X j).doM (X j) = M2 at *
      generalize (m0.doTo X j).doE (X j) = EE at *
      generalize m0.doTo X j = M1 at *
      have hI := kst_info (X j)
      generalize (X j).cells = VC at *
      have r1 : wr.rangeAt bb (off + j * 12) VC := fun i v hv => hcell _ _ fxr i v hv
      go_wp2_with (refine wpList_load_mid rfl 32 _ rfl bb (off + j * 12) rfl VC _ r1 Try.underlying32 rfl hI ?_)
      refine (D1.out _ _ pr).mono ?_
      rintro e w4 ⟨rfl, o4, pr4, fx4⟩
      have fxr4 := fxr.trans fx4
      have r2 : w4.rangeAt bb (off + j * 12) VC := fun i v hv => hcell _ _ fxr4 i v hv
      clear r1
      go_wp2_with (refine wpList_load_mid rfl 32 _ rfl bb (off + j * 12) rfl VC _ r2 Try.underlying32 rfl hI ?_)
      refine (D2.out _ _ pr4).mono ?_
      rintro e w5 ⟨rfl, o5, pr5, fx5⟩
      clear r2
      go_wp2
      exact ⟨⟨j + 1, by omega, by go_num, o5, by rw [HD.out]; exact pr5, fxr4.trans fx5⟩, by simp [intOf]; omega⟩
    · have hjn : j = nX := by omega
      have hjI : ¬ ((j : Int) < nX) := by omega
      subst hjn
      have hFit := hF0.doTo X j
      have hDry := hD0.doTo X j
      generalize m0.doTo X j = M at *
      have hFc := hFit.afterConnect k
      have hopen := open_connect M hk4
      have e1 : Hid (∀ o' w', Pair o' w' fb gb M M → Calls Try.prog 9 #[.pointer (some ⟨fb, 0, none⟩), .int .i64 (k : Nat)] w' fun r w'' => r = .returned (.int .i64 (M.connectE k)) ∧ ∃ o'', Pair o'' w'' fb gb (M.afterConnect k) M ∧ FrN o' w' o'' w'') := fun o' w' h' => by
        obtain ⟨a, b, h1⟩ := h'.f
        refine (connect_left h1 k).mono ?_
        rintro r w'' ⟨e, hl⟩
        exact ⟨e, h'.left1 hl⟩
      have e2 : Hid (∀ o' w', Pair o' w' fb gb (M.afterConnect k) M → Calls Try.prog 9 #[.pointer (some ⟨gb, 0, none⟩), .int .i64 (k : Nat)] w' fun r w'' => r = .returned (.int .i64 (M.connectE k)) ∧ ∃ o'', Pair o'' w'' fb gb (M.afterConnect k) (M.afterConnect k) ∧ FrN o' w' o'' w'') := fun o' w' h' => by
        obtain ⟨a, b, h1⟩ := h'.g
        refine (connect_left h1 k).mono ?_
        rintro r w'' ⟨e, hl⟩
        exact ⟨e, h'.left2 hl⟩
      have hDc := dry_connect hDry k
      generalize M.connectE k = CE at *
      generalize M.afterConnect k = N at *
      have hbadf : N.feed k (wrongAt (pickI bad 9) ++ s) = N.close k := feed_bad hDc k _ s
      have hcl : Hid (N.afterFeed k (wrongAt (pickI bad 9) ++ s) = N.close k) := by
        show cond (N.chk k == 0) (N.feed (k : Int).toNat _) N = _
        rw [hopen, Int.toNat_natCast, hbadf]
        rfl
      have e3 : Hid (∀ o' w', Pair o' w' fb gb N N → Calls Try.prog 10 #[.pointer (some ⟨fb, 0, none⟩), .int .i64 (k : Nat), .string (wrongAt (pickI bad 9) ++ s)] w' fun r w'' => r = .returned (.int .i64 0) ∧ ∃ o'', Pair o'' w'' fb gb (N.close k) N ∧ FrN o' w' o'' w'') := fun o' w' h' => by
        obtain ⟨a, b, h1⟩ := h'.f
        refine (feed_left h1 (by omega) hFc (by omega) k (wrongAt (pickI bad 9) ++ s) (by rw [ByteArray.size_append]; omega)).mono ?_
        rintro r w'' ⟨e, hl⟩
        rw [hopen] at e
        rw [hcl.out] at hl
        exact ⟨e, h'.left1 hl⟩
      have e4 : Hid (∀ o' w', Pair o' w' fb gb (N.close k) N → Calls Try.prog 12 #[.pointer (some ⟨gb, 0, none⟩), .int .i64 (k : Nat)] w' fun r w'' => r = .returned (.int .i64 0) ∧ ∃ o'', Pair o'' w'' fb gb (N.close k) (N.close k) ∧ FrN o' w' o'' w'') := fun o' w' h' => by
        obtain ⟨a, b, h1⟩ := h'.g
        refine (hangup_left h1 (by omega) hFc (by omega) k).mono ?_
        rintro r w'' ⟨e, hl⟩
        have hh : N.afterHangup k = N.close k := by
          unfold PM.afterHangup
          rw [hopen, Int.toNat_natCast]
          rfl
        rw [hopen] at e
        rw [hh] at hl
        exact ⟨e, h'.left2 hl⟩
      have e5 : Hid (∀ o' w', Pair o' w' fb gb (N.close k) (N.close k) → Calls Try.prog 13 #[.pointer (some ⟨fb, 0, none⟩), .int .i64 (k : Nat)] w' fun r w'' => r = .returned (.bool false) ∧ w'' = w') := fun o' w' h' => by
        obtain ⟨a, b, h1⟩ := h'.f
        have ho : (N.close k).open_ (k : Nat) = false := by
          unfold PM.open_
          rw [show isC (k : Int) = true from by simp [isC]; omega, Int.toNat_natCast, close_con, if_pos rfl]
          rfl
        have := open_any h1 (k : Nat)
        rw [ho] at this
        exact this
      have hcat : ¬ (9223372036854775807 < (wrongAt (pickI bad 9)).size + s.size) := by omega
      generalize wrongAt (pickI bad 9) = WR at *
      go_wp2_with fail
      refine (e1.out _ _ pr).mono ?_
      rintro e w6 ⟨rfl, o6, pr6, fx6⟩
      go_wp2_with fail
      refine (e2.out _ _ pr6).mono ?_
      rintro e w7 ⟨rfl, o7, pr7, fx7⟩
      go_wp2_with fail
      refine (kW.out _).mono ?_
      rintro e w71 ⟨rfl, hb71⟩
      have pr71 := pr7.below hb71
      go_wp2_with fail
      refine (e3.out _ _ pr71).mono ?_
      rintro e w8 ⟨rfl, o8, pr8, fx8⟩
      have fxr8 := (((fxr.trans fx6).trans fx7).below hb71).trans fx8
      go_wp2_with fail
      refine (e4.out _ _ pr8).mono ?_
      rintro e w9 ⟨rfl, o9, pr9, fx9⟩
      have fxr9 := fxr8.trans fx9
      go_wp2_with fail
      refine (e5.out _ _ pr9).mono ?_
      rintro e w91 ⟨rfl, rfl⟩
      obtain ⟨BB, hBB, hFs⟩ : ∃ BB, BB ≤ ktot X j + s.size + 300 ∧ (N.close k).Fit BB := ⟨0 + ktot X j, by omega, hFc.close k⟩
      clear e1 e2 e3 e4 e5 pr pr6 pr7 pr71 pr8 fxr fx6 fx7 fx8 fx9 fxr8 hFc hFit hcl hbadf
      generalize N.close k = m1 at *
      go_wp2
      go_loopw [21] (fun i w' => ∃ j : Nat, j ≤ nY ∧ i = .int .i64 j ∧ ∃ o', Pair o' w' fb gb (m1.doTo Y j) (m1.doTo Y j) ∧ FrN noK w o' w') (fun i _ => nY - (intOf i).toNat)
      case atStart => exact ⟨0, by omega, rfl, o9, pr9, fxr9⟩
      case round =>
        clear pr9 fxr9
        obtain ⟨j, hj, rfl, o3, pr, fxr⟩ := hrel
        by_cases hlt : j < nY
        · obtain ⟨bb, off, rfl, hcell⟩ : ∃ bb off, aY = some ⟨bb, off, none⟩ ∧ ∀ o' w', FrN noK w o' w' → ∀ i u, ((Y j).cells)[i]? = some u → w'.cell? ⟨bb, off + j * 12 + i, none⟩ = some u := by
            rcases hY with e | ⟨bb, off, e, hbl, hc⟩
            · omega
            · exact ⟨bb, off, e, fun o' w' hf i u hu => by rw [World.cell?_of_block (hf.block bb hbl rfl)]; exact hc j hlt i u hu⟩
          have hjI : (j : Int) < nY := by omega
          have hFit : (m1.doTo Y j).Fit (BB + ktot Y j) := hFs.doTo Y j
          have hkt := ktot_mono Y (show j + 1 ≤ nY from hlt)
          have hkt' : ktot Y (j + 1) = ktot Y j + (Y j).s.size + 520 := rfl
          have hx64 := hY64 j hlt
          have HD : Hid (m1.doTo Y (j + 1) = (m1.doTo Y j).doM (Y j)) := rfl
          have D1 : Hid (∀ o' w', Pair o' w' fb gb (m1.doTo Y j) (m1.doTo Y j) → Calls Try.prog 8 #[.pointer (some ⟨fb, 0, none⟩), .agg (Y j).cells.toArray] w' fun r w'' => r = .returned (.int .i64 ((m1.doTo Y j).doE (Y j))) ∧ ∃ o'', Pair o'' w'' fb gb ((m1.doTo Y j).doM (Y j)) (m1.doTo Y j) ∧ FrN o' w' o'' w'') := fun o' w' h' => pair_do1 h' hFit (by omega) (Y j) hx64 (by omega)
          have D2 : Hid (∀ o' w', Pair o' w' fb gb ((m1.doTo Y j).doM (Y j)) (m1.doTo Y j) → Calls Try.prog 8 #[.pointer (some ⟨gb, 0, none⟩), .agg (Y j).cells.toArray] w' fun r w'' => r = .returned (.int .i64 ((m1.doTo Y j).doE (Y j))) ∧ ∃ o'', Pair o'' w'' fb gb ((m1.doTo Y j).doM (Y j)) ((m1.doTo Y j).doM (Y j)) ∧ FrN o' w' o'' w'') := fun o' w' h' => pair_do2 h' hFit (by omega) (Y j) hx64 (by omega)
          clear hFit hkt hkt' hx64
          generalize (m1.doTo Y j).doM (Y j) = M2 at *
          generalize (m1.doTo Y j).doE (Y j) = EE at *
          generalize m1.doTo Y j = M1 at *
          have hI := kst_info (Y j)
          generalize (Y j).cells = VC at *
          have r1 : wr.rangeAt bb (off + j * 12) VC := fun i v hv => hcell _ _ fxr i v hv
          go_wp2_with (refine wpList_load_mid rfl 32 _ rfl bb (off + j * 12) rfl VC _ r1 Try.underlying32 rfl hI ?_)
          refine (D1.out _ _ pr).mono ?_
          rintro e w4 ⟨rfl, o4, pr4, fx4⟩
          have fxr4 := fxr.trans fx4
          have r2 : w4.rangeAt bb (off + j * 12) VC := fun i v hv => hcell _ _ fxr4 i v hv
          clear r1
          go_wp2_with (refine wpList_load_mid rfl 32 _ rfl bb (off + j * 12) rfl VC _ r2 Try.underlying32 rfl hI ?_)
          refine (D2.out _ _ pr4).mono ?_
          rintro e w5 ⟨rfl, o5, pr5, fx5⟩
          clear r2
          go_wp2
          exact ⟨⟨j + 1, by omega, by go_num, o5, by rw [HD.out]; exact pr5, fxr4.trans fx5⟩, by simp [intOf]; omega⟩
        · have hjn : j = nY := by omega
          have hjI : ¬ ((j : Int) < nY) := by omega
          subst hjn
          have hFit := hFs.doTo Y j
          generalize m1.doTo Y j = M at *
          have hreq : M.req.length ≤ 1000000000 := by have := hFit.small.req; omega
          have hwl : M.waits.length ≤ 1000000000000 := by
            have : M.waits.length ≤ M.req.length := by simp only [PM.waits, List.length_map]; exact List.length_filter_le _ _
            omega
          obtain ⟨sa, ra, ha⟩ := pr.f
          obtain ⟨sb, rb, hb⟩ := pr.g
          go_wp2_with fail
          refine (look_any ha (by omega)).mono ?_
          rintro e w6 ⟨va, rfl, oa, ba⟩
          obtain ⟨aa, ca, hva, -, -⟩ := own_slice oa
          subst hva
          have hIa := lookC_info M (.slice aa M.waits.length ca) M.time true
          have hOa := lookC_one M aa M.waits.length ca M.time true
          obtain ⟨tha, bla, rga, hlta⟩ := put_look w6 (lookC M 4 6 (.slice aa M.waits.length ca) M.time true) rfl
          have AK : Hid (∀ w' B1 B2 (bb2 : Option Addr) cb2, w'.ownsRow B1 82 2 (.slice aa M.waits.length ca) M.waits.length (keyCells M.waits) → w'.ownsRow B2 82 2 (.slice bb2 M.waits.length cb2) M.waits.length (keyCells M.waits) → Calls Try.prog 15 #[.agg (lookC M 4 6 (.slice aa M.waits.length ca) M.time true).toArray, .agg (lookC M 4 6 (.slice bb2 M.waits.length cb2) M.time true).toArray] w' fun r w'' => r = .returned (.bool true) ∧ Below w'.heap.size w' w'') := fun w' B1 B2 bb2 cb2 x y => alike_any M x y hwl
          generalize lookC M 4 6 (.slice aa M.waits.length ca) M.time true = LA at *
          have hb7 := (hb.below ba).below bla
          have oa7 := look_own oa bla
          have b7 := ba.trans (bla.mono ba.size)
          go_wp2_with (refine wpList_store_mid rfl 45 _ _ rfl w6.heap.size 0 LA.toArray rfl rfl tha (by simpa using hIa) hOa ?_)
          refine (look_any hb7 (by omega)).mono ?_
          rintro e w8 ⟨vb, rfl, ob, bb8⟩
          obtain ⟨ab, cb, hvb, -, -⟩ := own_slice ob
          subst hvb
          have hIb := lookC_info M (.slice ab M.waits.length cb) M.time true
          have hOb := lookC_one M ab M.waits.length cb M.time true
          obtain ⟨thb, blb, rgb, -⟩ := put_look w8 (lookC M 4 6 (.slice ab M.waits.length cb) M.time true) rfl
          have AK2 : Hid (∀ w' B1 B2, w'.ownsRow B1 82 2 (.slice aa M.waits.length ca) M.waits.length (keyCells M.waits) → w'.ownsRow B2 82 2 (.slice ab M.waits.length cb) M.waits.length (keyCells M.waits) → Calls Try.prog 15 #[.agg LA.toArray, .agg (lookC M 4 6 (.slice ab M.waits.length cb) M.time true).toArray] w' fun r w'' => r = .returned (.bool true) ∧ Below w'.heap.size w' w'') := fun w' B1 B2 x y => AK.out w' B1 B2 ab cb x y
          clear AK
          generalize lookC M 4 6 (.slice ab M.waits.length cb) M.time true = LB at *
          have oa9 := look_own (look_own oa7 bb8) blb
          have ob9 := look_own ob blb
          have rga8 := range_below rga hlta bb8
          have hlt8 := Nat.lt_of_lt_of_le hlta bb8.size
          have rga9 := range_below rga8 hlt8 blb
          have b9 : Below wr.heap.size wr _ := (b7.trans (bb8.mono b7.size)).trans (blb.mono (b7.trans (bb8.mono b7.size)).size)
          clear hb7 oa oa7 ob rga rga8 bla tha hb
          go_wp2_with (first | (refine wpList_store_mid rfl 45 _ _ rfl w8.heap.size 0 LB.toArray rfl rfl thb (by simpa using hIb) hOb ?_) | (refine wpList_load_mid rfl 45 _ rfl w6.heap.size 0 rfl LA _ rga9 Try.underlying45 rfl hIa ?_) | (refine wpList_load_mid rfl 45 _ rfl w8.heap.size 0 rfl LB _ rgb Try.underlying45 rfl hIb ?_))
          refine (AK2.out _ _ _ oa9 ob9).mono ?_
          rintro e w10 ⟨rfl, b10⟩
          clear rga9 rgb thb
          go_wp2
          go_ret
          have fxF := (fxr.below b9).below b10
          exact ⟨rfl, fxF.os, fxF.tape, fxF.output, fxF.size, fun g hg => fxF.block g hg rfl⟩

end Go.Proofs.Ytlafkpaljibonab

namespace Go.Proofs.Ytlafkpaljibonab.alone
open Go.ChangeMaps (open_string shut_string)
open Go.ChangeShapes Go.WideShapes Go.ChangeAt Go.RowKit Go.Joins Go.Deep Go.Proofs.Ytlafkpaljibonab Go.Proofs.Ytlafkpaljibonab.kscript

set_option maxRecDepth 100000 in
theorem contract (H : Type) (enc : TypeId × Value → H) (W : World) (base : Nat) (args : Array Value) (ds gs : List (DataW H)) (before : List MemPlace)
    (hval : ∀ (j : Nat) t v, Try.f3.params[j]? = some t → args[j]? = some v → Value.okWide Try.prog W .any base t v)
    (hW : DataW.Whole enc Try.prog Try.f3.params.toList Rows.aloneSpec.vars false W args.toList ds gs before) (hk : Rows.uptoSmall H (ds ++ gs) = true) :
    Calls Try.prog 3 args W fun e W' => ∃ v, e = .returned v ∧ Rows.aloneSpec.post enc Try.prog Try.f3 false true false false W args v W' := by
  have hW' := hW
  obtain ⟨p, q, hA0, hV, rfl, hfz, hnd⟩ := hW
  have hA : DataW.TrodAll enc Try.prog W 0 (fun _ => true) true Try.f3.params.toList args.toList ds p := hA0
  rw [Try.params3] at hA hval
  obtain ⟨v0, vs0, d0, ds0, p0, q0, hargs, rfl, rfl, h0, r0⟩ := trodAll_cons hA
  obtain ⟨v1, vs1, d1, ds1, p1, q1, rfl, rfl, rfl, h1, r1⟩ := trodAll_cons r0
  obtain ⟨v2, vs2, d2, ds2, p2, q2, rfl, rfl, rfl, h2, r2⟩ := trodAll_cons r1
  obtain ⟨v3, vs3, d3, ds3, p3, q3, rfl, rfl, rfl, h3, r3⟩ := trodAll_cons r2
  obtain ⟨v4, vs4, d4, ds4, p4, q4, rfl, rfl, rfl, h4, r4⟩ := trodAll_cons r3
  obtain ⟨v5, vs5, d5, ds5, p5, q5, rfl, rfl, rfl, h5, r5⟩ := trodAll_cons r4
  obtain ⟨rfl, rfl, rfl⟩ := trodAll_nil r5
  obtain rfl : args = #[v0, v1, v2, v3, v4, v5] := by cases args; simp_all
  obtain ⟨rfl, rfl⟩ := trodVars_none hV
  have k0 := h0
  have k1 := h1
  have k5 := h5
  have lt0 : ∀ x ∈ p0, x.block < W.heap.size := by obtain ⟨m, hm⟩ := k0; exact DataW.trod_lt m _ _ _ hm
  have lt1 : ∀ x ∈ p1, x.block < W.heap.size := by obtain ⟨m, hm⟩ := k1; exact DataW.trod_lt m _ _ _ hm
  have lt5 : ∀ x ∈ p5, x.block < W.heap.size := by obtain ⟨m, hm⟩ := k5; exact DataW.trod_lt m _ _ _ hm
  obtain ⟨c, rfl, hc64⟩ := cfg_of (hval 0 23 v0 rfl rfl) h0
  obtain ⟨a1, len1, cap1, rfl⟩ := okWide_slice Try.underlying24 (hval 1 24 v1 rfl rfl)
  obtain ⟨conn, rfl, rfl, rfl, w2⟩ := open_int Try.underlying3 (hval 2 3 v2 rfl rfl) h2
  obtain ⟨bad, rfl, rfl, rfl, w3⟩ := open_int Try.underlying3 (hval 3 3 v3 rfl rfl) h3
  obtain ⟨s, rfl, rfl, rfl, w4⟩ := open_string Try.underlying9 (hval 4 9 v4 rfl rfl) h4
  obtain ⟨a5, len5, cap5, rfl⟩ := okWide_slice Try.underlying24 (hval 5 24 v5 rfl rfl)
  obtain ⟨X, hX, hX64, hXs⟩ := steps_of h1
  obtain ⟨Y, hY, hY64, hYs⟩ := steps_of h5
  clear hA0
  simp only [List.append_nil] at hW' hk
  have hb : Rows.uptoBulkAll _ ≤ 1048576 := of_decide_eq_true hk
  have e : s.data.toList.length = s.size := by rw [Array.length_toList]; rfl
  simp only [Rows.uptoBulkAll, Rows.uptoBulk] at hb
  refine (alone_any c hc64 a1 len1 cap1 X conn bad (wf_bd w2) (wf_bd w3) s (by omega) a5 len5 cap5 Y W hX hX64 hY hY64 (by omega)).mono fun e W' ⟨he, bel⟩ => ?_
  subst he
  exact ⟨_, rfl, _, _, _, [], _, [], hW', trodAll_mk1 (shut_bool Try.underlying4 _), (trodAll_cons_mk (Below.trod laidOut (by kernel_rfl) (of_decide_eq_true (by kernel_rfl)) k0 bel lt0) (trodAll_cons_mk (Below.trod laidOut (by kernel_rfl) (of_decide_eq_true (by kernel_rfl)) k1 bel lt1) (trodAll_cons_mk (shut_int Try.underlying3 w2) (trodAll_cons_mk (shut_int Try.underlying3 w3) (trodAll_cons_mk (shut_string Try.underlying9 w4) (trodAll_cons_mk (Below.trod laidOut (by kernel_rfl) (of_decide_eq_true (by kernel_rfl)) k5 bel lt5) trodAll_mk0)))))), rfl, bel.frame _, fun h => by cases h⟩

set_option maxRecDepth 100000 in
theorem lifted (os : Os) (started : os.Started) (H : Type) (enc : TypeId × Value → H) (F : Stop.Interp) :
    ReturnsInHanded {} Try.checked os 3 .any ((Rows.OpenSpec.upto Rows.aloneSpec).pre6 enc Try.prog Try.f3 Rows.aloneUptoRow.domain false) (((Rows.OpenSpec.upto Rows.aloneSpec).at F).post enc Try.prog Try.f3 false true false false) := by
  refine returnsInHanded_of_cond (C := Try.checked) (s := Rows.OpenSpec.upto Rows.aloneSpec) (k := Rows.uptoSmall) rfl own started (by kernel_rfl) Try.func3
    (OpenSpec.witness (enc := enc) (C := Try.checked) (s := Rows.OpenSpec.upto Rows.aloneSpec) (k := Rows.uptoSmall) rfl false ⟨#[], #[.agg #[.int .i64 0, .bool false, .int .i64 0, .int .i64 0, .int .i64 0, .int .i64 0, .int .i64 0], .slice none 0 0, .int .i64 0, .int .i64 0, .string ⟨#[]⟩, .slice none 0 0], []⟩ 8 (by kernel_rfl) (by kernel_rfl) (by kernel_rfl)
      (x := ([.agg [.lit (.int .i64 0), .lit (.bool false), .lit (.int .i64 0), .lit (.int .i64 0), .lit (.int .i64 0), .lit (.int .i64 0), .lit (.int .i64 0)], .nil, .lit (.int .i64 0), .lit (.int .i64 0), .lit (.string []), .nil], [], [])) (by kernel_rfl) rfl (by kernel_rfl)) ?_
  intro W base args ds gs before hval hW _ hk _
  exact contract H enc W base args ds gs before hval hW hk

set_option maxRecDepth 100000 in
theorem proved : Rows.AloneUptoSaid :=
  OpenClaim.holds_of_cond 3 Try.f3 rfl rfl rfl rfl rfl rfl rfl ⟨rfl, rfl, rfl, rfl, rfl⟩ rfl rfl rfl rfl rfl (by kernel_rfl) Try.func3 (by kernel_rfl)
    (of_decide_eq_true (by kernel_rfl)) (by unfold Func.isWrapper; first | (rw [if_pos (by decide +kernel)]; kernel_rfl) | (rw [if_neg (by decide +kernel)]; exact ⟨rfl, rfl⟩))
    (fun os started H enc _ F => lifted os started H enc F)
#print axioms proved
end Go.Proofs.Ytlafkpaljibonab.alone
