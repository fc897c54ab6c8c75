import Derived.Test.YtlafkpaljibonaaJ7
import Derived.Test.YtlafkpaljibonaaJ12
import Derived.Test.YtlafkpaljibonaaJ10
import Derived.Test.YtlafkpaljibonaaJ13
namespace Go.Proofs.Ytlafkpaljibonaa
open Go.RowKit

/-- Nothing is to be started, and nobody is Idle. -/
structure PM.calm (m : PM) : Prop where
  dyn : m.set.dyn = false
  used : m.set.ch ≤ m.usedTo 6
  idle : ∀ k, k < 6 → (m.slot k).st ≠ 2

theorem startTo_full (m : PM) {u : Int} (h : m.set.ch ≤ u) : ∀ k, startTo m u k = (m, u)
  | 0 => rfl
  | k + 1 => by
    have ih := startTo_full m h k
    have e : startTo m u (k + 1) = cond (decide ((startTo m u k).2 < m.set.ch) && ((startTo m u k).1.slot k).st == 0) ({ (startTo m u k).1 with slot := upd (startTo m u k).1.slot k (newSlot 1) }, (startTo m u k).2 + 1) (startTo m u k) := rfl
    rw [e, ih, decide_eq_false (by simp only []; omega)]
    rfl

theorem leaseTo_none (m : PM) (h : ∀ k, k < 6 → (m.slot k).st ≠ 2) : ∀ k, k ≤ 6 → m.leaseTo k = m
  | 0, _ => rfl
  | k + 1, hk => by
    have ih := leaseTo_none m h k (by omega)
    have e : m.leaseTo (k + 1) = (m.leaseTo k).leaseAt k := rfl
    rw [e, ih]
    unfold PM.leaseAt
    have hs : ((m.slot k).st == 2) = false := by simpa using h k (by omega)
    rw [hs]
    cases m.fw <;> rfl

theorem PM.calm.settle {m : PM} (h : m.calm) : m.settle = m := by
  unfold PM.settle PM.leaseWaiting PM.startMissing
  rw [h.dyn, startTo_full m h.used]
  exact leaseTo_none m h.idle 6 (Nat.le_refl _)

theorem PM.setRest_same (m : PM) (k : Nat) (s : ByteArray) (h : (m.con k).rest = s) : m.setRest k s = m := by
  unfold PM.setRest
  have : upd m.con k { m.con k with rest := s } = m.con := by
    funext j
    simp only [upd]
    split
    · rename_i e; subst e; rw [← h]
    · rfl
  rw [this]

theorem left_end (s : ByteArray) : left s s.size = ⟨#[]⟩ := by
  unfold left
  apply ByteArray.ext
  simp

theorem left_zero (s : ByteArray) : left s 0 = s := by
  unfold left
  simp

/-- One whole record comes, and nothing was held back. -/
theorem PM.feed_one (m : PM) (k : Nat) (hr : (m.con k).rest = ⟨#[]⟩) (s : ByteArray) (h2 : rcode true s = 2) (hz : sizeT s = s.size) (hag : m.again k (recT s).2.1 (recT s).1 = false) :
    m.feed k s = ((m.take k (recT s)).settle).setRest k ⟨#[]⟩ := by
  obtain ⟨h8, -⟩ := rcode_two h2
  unfold PM.feed
  rw [hr, nil_ba]
  have e1 : PM.takeAll k s (s.size + 1) m 0 = PM.takeAll k s s.size ((m.take k (recT s)).settle) (0 + s.size) := by
    show (if rcode true (left s 0) = 0 then _ else if rcode true (left s 0) = 1 then _ else _) = _
    rw [left_zero, h2, if_neg (by omega), if_neg (by omega), hag, hz]
    rfl
  obtain ⟨f, hf⟩ : ∃ f, s.size = f + 1 := ⟨s.size - 1, by omega⟩
  have e2 : ∀ (M : PM), PM.takeAll k s s.size M s.size = M.setRest k ⟨#[]⟩ := by
    intro M
    have h0 : rcode true (left s s.size) = 0 := by
      unfold rcode
      rw [if_pos]
      rw [left_size]; omega
    rw [show PM.takeAll k s s.size M s.size = PM.takeAll k s (f + 1) M s.size from by rw [← hf]]
    show (if rcode true (left s s.size) = 0 then M.setRest k (left s s.size) else _) = _
    rw [if_pos h0, left_end]
  rw [e1, Nat.zero_add, e2]

/-- A record's bytes, as a client may send them. -/
theorem enc_rcode (r : Rec) (p : List Int) (hg : Good r p) (hw : wrongB r.1 r.2.2.size = false) : rcode true (enc r.1 r.2.1 r.2.2 p) = 2 ∧ recT (enc r.1 r.2.1 r.2.2 p) = r ∧ sizeT (enc r.1 r.2.1 r.2.2 p) = (enc r.1 r.2.1 r.2.2 p).size := by
  have e : enc r.1 r.2.1 r.2.2 p = strOfNums (encL r p) := rfl
  rw [e]
  have h := step_enc r p [] hg
  rw [List.append_nil] at h
  obtain ⟨h1, h2, h3⟩ := h
  have ht := take8_enc r p []
  rw [List.append_nil] at ht
  obtain ⟨e1, -, e3, -, -⟩ := head_enc r p (encL r p) hg ht
  refine ⟨?_, h2, by rw [h3, strOfNums_size]⟩
  rw [← h1]
  unfold rcode code stopT wrongT
  rw [e1, e3, hw]
  simp

theorem findFrom_last (c i : Int) (x : Req) : ∀ (l : List Req) (k : Nat), (∀ r ∈ l, isKey c i r = false) → isKey c i x = true → findFrom c i (l ++ [x]) k = some (k + l.length)
  | [], k, _, hx => by
    show cond (isKey c i x) (some k) _ = _
    rw [hx]; rfl
  | r :: l, k, h, hx => by
    show cond (isKey c i r) (some k) (findFrom c i (l ++ [x]) (k + 1)) = _
    rw [h r (by simp), cond_false, findFrom_last c i x l (k + 1) (fun y hy => h y (by simp [hy])) hx]
    simp only [List.length_cons]
    congr 1
    omega

theorem findFrom_nobody (c i : Int) : ∀ (l : List Req) (k : Nat), (∀ r ∈ l, isKey c i r = false) → findFrom c i l k = none
  | [], _, _ => rfl
  | r :: l, k, h => by
    show cond (isKey c i r) (some k) (findFrom c i l (k + 1)) = _
    rw [h r (by simp), cond_false, findFrom_nobody c i l (k + 1) (fun y hy => h y (by simp [hy]))]

/-- The same foreman with other requests. -/
def PM.withReq (m : PM) (l : List Req) : PM := { m with req := l }

theorem PM.calm.withReq {m : PM} (h : m.calm) (l : List Req) : (m.withReq l).calm :=
  ⟨h.dyn, h.used, h.idle⟩

section
variable {m : PM} {W : List Req} {c : Nat} {i : Int}

theorem feedBegin (hc : m.calm) (hr : (m.con c).rest = ⟨#[]⟩) (hno : ∀ r ∈ W, isKey c i r = false) (hi : 1 ≤ i ∧ i ≤ 65535) (hkeys : (W.filter fun r => r.conn == (c : Int)).length < 4) :
    (m.withReq W).feed c (enc 1 i ⟨#[1]⟩ []) = m.withReq (W ++ [newReq c i]) := by
  obtain ⟨h1, h2, h3⟩ := enc_rcode (1, i, ⟨#[1]⟩) [] ⟨by simp [allowedB, isKindB, ByteArray.size]; omega, by simp⟩ rfl
  have h1 : rcode true (enc 1 i ⟨#[1]⟩ []) = 2 := h1
  have h2 : recT (enc 1 i ⟨#[1]⟩ []) = (1, i, ⟨#[1]⟩) := h2
  have h3 : sizeT (enc 1 i ⟨#[1]⟩ []) = (enc 1 i ⟨#[1]⟩ []).size := h3
  have hf : (m.withReq W).find c i = none := findFrom_nobody c i W 0 hno
  have hag : (m.withReq W).again c (recT (enc 1 i ⟨#[1]⟩ [])).2.1 (recT (enc 1 i ⟨#[1]⟩ [])).1 = false := by
    rw [h2]
    unfold PM.again
    rw [hf]; rfl
  rw [PM.feed_one (m.withReq W) c hr _ h1 h3 hag, h2]
  have ht : (m.withReq W).take c (1, i, ⟨#[1]⟩) = m.withReq (W ++ [newReq c i]) := by
    unfold PM.take
    rw [if_pos rfl]
    unfold PM.begin_
    have e1 : ((⟨#[1]⟩ : ByteArray).toList == [1]) = true := by rw [ByteArray.toList_eq]; rfl
    have e2 : decide (((m.withReq W).keysOf c).length ≥ 4) = false := by
      rw [decide_eq_false]
      unfold PM.keysOf
      rw [List.length_map]
      show ¬ (W.filter fun r => r.conn == (c : Int)).length ≥ 4
      omega
    simp only []
    rw [e1, e2]
    rfl
  rw [ht, (hc.withReq _).settle]
  exact PM.setRest_same _ _ _ hr

theorem feedIn (hc : m.calm) (hr : (m.con c).rest = ⟨#[]⟩) (hno : ∀ r ∈ W, isKey c i r = false) (hi : 1 ≤ i ∧ i ≤ 65535) (b t : ByteArray) (ht0 : 0 < t.size) (ht : t.size ≤ 200) (hb : b.size + t.size ≤ 500) (p : List Int) (hp : p.length ≤ 7) :
    (m.withReq (W ++ [⟨c, i, 0, b⟩])).feed c (enc 5 i t p) = m.withReq (W ++ [⟨c, i, 0, b ++ t⟩]) := by
  obtain ⟨h1, h2, h3⟩ := enc_rcode (5, i, t) p ⟨by simp [allowedB, isKindB]; omega, hp⟩ rfl
  have h1 : rcode true (enc 5 i t p) = 2 := h1
  have h2 : recT (enc 5 i t p) = (5, i, t) := h2
  have h3 : sizeT (enc 5 i t p) = (enc 5 i t p).size := h3
  have hf : (m.withReq (W ++ [⟨c, i, 0, b⟩])).find c i = some W.length := by
    have := findFrom_last c i ⟨c, i, 0, b⟩ W 0 hno (by simp [isKey])
    rw [Nat.zero_add] at this
    exact this
  have hag : (m.withReq (W ++ [⟨c, i, 0, b⟩])).again c (recT (enc 5 i t p)).2.1 (recT (enc 5 i t p)).1 = false := by
    rw [h2]
    unfold PM.again
    rw [hf]; rfl
  rw [PM.feed_one (m.withReq (W ++ [(⟨c, i, 0, b⟩ : Req)])) c hr _ h1 h3 hag, h2]
  have htk : (m.withReq (W ++ [⟨c, i, 0, b⟩])).take c (5, i, t) = m.withReq (W ++ [⟨c, i, 0, b ++ t⟩]) := by
    unfold PM.take
    rw [if_neg (by simp), if_pos rfl]
    simp only [PM.in_, hf]
    have hg : (m.withReq (W ++ [⟨c, i, 0, b⟩])).req.getD W.length noReq = ⟨c, i, 0, b⟩ := by simp [PM.withReq, List.getD]
    rw [hg]
    unfold PM.inAt
    have e1 : (t.toList == []) = false := by rw [ba_nil_iff]; exact decide_eq_false (by omega)
    have e2 : decide (500 < (b ++ t).size) = false := by rw [decide_eq_false]; rw [ByteArray.size_append]; omega
    simp only []
    rw [e1, e2]
    simp [PM.withReq]
  rw [htk, (hc.withReq _).settle]
  exact PM.setRest_same _ _ _ hr

theorem feedEnd (hc : m.calm) (hr : (m.con c).rest = ⟨#[]⟩) (hno : ∀ r ∈ W, isKey c i r = false) (hi : 1 ≤ i ∧ i ≤ 65535) (b : ByteArray) (hroom : ((W.filter fun r => r.stage == 1).length : Int) < m.set.bl) :
    (m.withReq (W ++ [⟨c, i, 0, b⟩])).feed c (enc 5 i ⟨#[]⟩ []) = m.withReq (W ++ [⟨c, i, 1, b⟩]) := by
  obtain ⟨h1, h2, h3⟩ := enc_rcode (5, i, ⟨#[]⟩) [] ⟨by simp [allowedB, isKindB, ByteArray.size]; omega, by simp⟩ rfl
  have h1 : rcode true (enc 5 i ⟨#[]⟩ []) = 2 := h1
  have h2 : recT (enc 5 i ⟨#[]⟩ []) = (5, i, ⟨#[]⟩) := h2
  have h3 : sizeT (enc 5 i ⟨#[]⟩ []) = (enc 5 i ⟨#[]⟩ []).size := h3
  have hf : (m.withReq (W ++ [⟨c, i, 0, b⟩])).find c i = some W.length := by
    have := findFrom_last c i ⟨c, i, 0, b⟩ W 0 hno (by simp [isKey])
    rw [Nat.zero_add] at this
    exact this
  have hag : (m.withReq (W ++ [⟨c, i, 0, b⟩])).again c (recT (enc 5 i ⟨#[]⟩ [])).2.1 (recT (enc 5 i ⟨#[]⟩ [])).1 = false := by
    rw [h2]
    unfold PM.again
    rw [hf]; rfl
  rw [PM.feed_one (m.withReq (W ++ [(⟨c, i, 0, b⟩ : Req)])) c hr _ h1 h3 hag, h2]
  have htk : (m.withReq (W ++ [⟨c, i, 0, b⟩])).take c (5, i, ⟨#[]⟩) = m.withReq (W ++ [⟨c, i, 1, b⟩]) := by
    unfold PM.take
    rw [if_neg (by simp), if_pos rfl]
    simp only [PM.in_, hf]
    have hg : (m.withReq (W ++ [⟨c, i, 0, b⟩])).req.getD W.length noReq = ⟨c, i, 0, b⟩ := by simp [PM.withReq, List.getD]
    rw [hg]
    unfold PM.inAt PM.enqueue
    have e1 : ((⟨#[]⟩ : ByteArray).toList == []) = true := by rw [ba_nil_iff]; rfl
    have hrm : (m.withReq (W ++ [⟨c, i, 0, b⟩])).room = true := by
      unfold PM.room
      have hw : (m.withReq (W ++ [⟨c, i, 0, b⟩])).waits.length = (W.filter fun r => r.stage == 1).length := by
        unfold PM.waits PM.withReq
        simp [List.filter_append]
      rw [hw]
      have : decide (((W.filter fun r => r.stage == 1).length : Int) < (m.withReq (W ++ [⟨c, i, 0, b⟩])).set.bl) = true := decide_eq_true hroom
      rw [this, Bool.or_true]
    have hwo : withoutL (m.withReq (W ++ [⟨c, i, 0, b⟩])).req c i = W := by
      unfold withoutL PM.withReq
      rw [List.filter_append, List.filter_eq_self.2 (by intro r hr'; simp [hno r hr'])]
      simp [isKey]
    simp only []
    rw [e1, hrm, hwo]
    rfl
  rw [htk, (hc.withReq _).settle]
  exact PM.setRest_same _ _ _ hr

end
end Go.Proofs.Ytlafkpaljibonaa

namespace Go.Proofs.Ytlafkpaljibonaa
open Go.RowKit

/-- Nothing that came is held back. -/
def PM.Dry (m : PM) : Prop := ∀ j, (m.con j).rest = ⟨#[]⟩

section
variable {m m' : PM}

theorem PM.Dry.same (h : m.Dry) (hc : ConSame m m') : m'.Dry := fun j => (hc j).2.trans (h j)

theorem PM.Dry.close (h : m.Dry) (k : Nat) : (m.close k).Dry := by
  intro j
  rw [close_con]
  split
  · rfl
  · exact h j

theorem rcode_nil : rcode true ⟨#[]⟩ = 0 := by
  unfold rcode
  rw [if_pos]
  show ((0 : Nat) : Int) < 8
  omega

theorem PM.Dry.feed (h : m.Dry) (k : Nat) {s : ByteArray} (h2 : rcode true s = 2) (hz : sizeT s = s.size) : (m.feed k s).Dry := by
  have h8 := (rcode_two h2).2.2.2.2
  have e0 : (m.con k).rest ++ s = s := by rw [h k]; exact ByteArray.empty_append
  unfold PM.feed
  rw [e0]
  obtain ⟨f, hf⟩ : ∃ f, s.size = f + 1 := ⟨s.size - 1, by omega⟩
  rw [hf]
  have el : left s 0 = s := left_zero s
  unfold PM.takeAll
  rw [el, h2, if_neg (by omega), if_neg (by omega), hz]
  cases m.again k (recT s).2.1 (recT s).1
  · simp only [cond_false]
    unfold PM.takeAll
    rw [show left s (0 + s.size) = ⟨#[]⟩ from by rw [Nat.zero_add]; exact left_end s, rcode_nil, if_pos rfl]
    have h3 : ((m.take k (recT s)).settle).Dry := h.same ((ConSame.take m k _).trans (ConSame.settle _))
    intro j
    simp only [PM.setRest, upd]
    split
    · rfl
    · exact h3 j
  · exact h.close k

theorem recB_two (x : KSt) : rcode true x.recB = 2 ∧ sizeT x.recB = x.recB.size := by
  have p1 := pickI_bd x.c 6 (by omega)
  have p2 := pickI_bd (x.c.tdiv 6) 8 (by omega)
  have p3 := pickI_bd x.b 4 (by omega)
  have hs := shortB_le x.s 200
  have hp : x.pad ≤ 7 := by unfold KSt.pad; omega
  have key : ∀ (k : Int) (c : ByteArray), isKindB k = true → c.size ≤ 200 → wrongB k c.size = false → rcode true (enc k x.id c (padL x.pad)) = 2 ∧ sizeT (enc k x.id c (padL x.pad)) = (enc k x.id c (padL x.pad)).size := by
    intro k c hk hc hw
    have hi : 1 ≤ x.id ∧ x.id ≤ 65535 := by unfold KSt.id; omega
    have hg : Good (k, x.id, c) (padL x.pad) := by
      refine ⟨?_, by rw [padL_length]; exact hp⟩
      unfold allowedB
      simp only [hk, Bool.true_and, Bool.and_eq_true, decide_eq_true_eq]
      omega
    have := enc_rcode (k, x.id, c) (padL x.pad) hg hw
    exact ⟨this.1, this.2.2⟩
  unfold KSt.recB KSt.rk KSt.rc
  have hk : pickI x.b 4 = 0 ∨ pickI x.b 4 = 1 ∨ pickI x.b 4 = 2 ∨ pickI x.b 4 = 3 := by omega
  rcases hk with e | e | e | e
  · rw [e]; exact key 1 ⟨#[1]⟩ rfl (by decide) rfl
  · rw [e]; exact key 5 (shortB x.s 200) rfl hs rfl
  · rw [e]; exact key 5 ⟨#[]⟩ rfl (by decide) rfl
  · rw [e]; exact key 2 ⟨#[]⟩ rfl (by decide) rfl

theorem PM.Dry.doM (h : m.Dry) (x : KSt) : (m.doM x).Dry := by
  unfold PM.doM
  split
  · unfold PM.afterConnect
    cases (isC x.cn && !(m.con x.cn.toNat).op)
    · exact h
    · intro j
      simp only [cond_true, PM.connect, upd]
      split
      · rfl
      · exact h j
  split
  · unfold PM.afterHangup
    cases (m.chk x.cn == 0)
    · exact h
    · exact h.close _
  split
  · unfold PM.afterFeed
    cases (m.chk x.cn == 0)
    · exact h
    · exact h.feed _ (recB_two x).1 (recB_two x).2
  split
  · unfold PM.afterSpawned PM.spawned
    cases (m.stE x.sn 1 == 0)
    · exact h
    · refine h.same (ConSame.trans ?_ (ConSame.settle _))
      cases (m.slot x.sn.toNat).old <;> exact ConSame.refl _
  split
  · unfold PM.afterOutput PM.outputs PM.sendOut
    cases (m.stE x.sn 3 == 0)
    · exact h
    · refine h.same (ConSame.trans ?_ (ConSame.settle _))
      cases ((m.slot x.sn.toNat).conn != -1)
      · exact ConSame.refl _
      · exact ConSame.outN _ _ _ _ _
  split
  · unfold PM.afterFinished PM.finished PM.retires
    cases (m.stE x.sn 3 == 0)
    · exact h
    · refine h.same (ConSame.trans ((ConSame.endKeyOf m x.sn.toNat 0).trans ?_) (ConSame.settle _))
      cases (m.endKeyOf x.sn.toNat 0).mustGo x.sn.toNat <;> exact ConSame.refl _
  split
  · unfold PM.afterDied PM.died
    cases (m.diedE x.sn == 0)
    · exact h
    · have h1 : (m.endKeyOf x.sn.toNat 1).Dry := h.same (ConSame.endKeyOf m x.sn.toNat 1)
      have h2 : ((m.endKeyOf x.sn.toNat 1).empties x.sn.toNat).Dry := h1
      exact h2.same (ConSame.settle _)
  split
  · exact h.same ((ConSame.tickS m).trans (ConSame.settle _))
  · unfold PM.afterReload
    generalize setC x.set = c
    cases c.ok
    · exact h
    · have h1 : (m.withSet c).Dry := h
      have h2 : ((m.withSet c).agesTo 6).Dry := h1.same (ConSame.agesTo (m.withSet c) 6)
      have h3 : (((m.withSet c).agesTo 6).settle).Dry := h2.same (ConSame.settle _)
      rw [cond_true]
      unfold PM.reload
      exact h3

theorem PM.Dry.doTo (h : m.Dry) (X : Nat → KSt) : ∀ k, (m.doTo X k).Dry
  | 0 => h
  | k + 1 => (PM.Dry.doTo h X k).doM (X k)

theorem new_dry (c : Cfg) : (newPM c).Dry := by
  have h0 : (rawPM c).Dry := fun _ => rfl
  unfold newPM
  exact h0.same (ConSame.settle (rawPM c))

theorem wrongAt_le (j : Int) : (wrongAt j).size ≤ 300 := by
  unfold wrongAt
  repeat' split
  all_goals decide +kernel

theorem dry_connect (h : m.Dry) (k : Nat) : (m.afterConnect k).Dry := by
  unfold PM.afterConnect
  cases (isC (k : Int) && !(m.con (k : Int).toNat).op)
  · exact h
  · intro j
    simp only [cond_true, PM.connect, upd]
    split
    · rfl
    · exact h j

/-- Bytes that are none close their connection at once. -/
theorem feed_bad (h : m.Dry) (k : Nat) (j : Int) (t : ByteArray) : m.feed k (wrongAt j ++ t) = m.close k := by
  have e0 : (m.con k).rest ++ (wrongAt j ++ t) = wrongAt j ++ t := by rw [h k]; exact ByteArray.empty_append
  have hc : rcode true (wrongAt j) = 1 := by
    have := code_wrong j
    rw [← rcode_false] at this
    unfold rcode at this ⊢
    split at this
    · cases this
    · rename_i h8
      split at this
      · rename_i hs
        rw [if_neg h8, if_pos]
        simp only [stopT, Bool.false_and, Bool.or_false] at hs
        simp [stopT, hs]
      · split at this <;> cases this
  have hc2 : rcode true (wrongAt j ++ t) = 1 := by
    unfold rcode at hc ⊢
    split at hc
    · cases hc
    · rename_i h8
      split at hc
      · rename_i hs
        rw [if_neg (by rw [ByteArray.size_append]; omega), if_pos (by rw [stop_app true _ t (by omega)]; exact hs)]
      · split at hc <;> cases hc
  unfold PM.feed
  rw [e0]
  unfold PM.takeAll
  rw [left_zero, hc2, if_neg (by omega), if_pos rfl]

end
end Go.Proofs.Ytlafkpaljibonaa

namespace Go.Proofs.Ytlafkpaljibonaa
open Go.RowKit

section
variable {m m' : PM} {b : Nat → Int → Int} {a : Bool} {R Q : Int} {P : Int → Prop}

theorem settle_con (m : PM) : m.settle.con = m.con := by
  unfold PM.settle PM.leaseWaiting
  rw [leaseTo_con]
  cases m.set.dyn
  · exact startTo_con m _ 6
  · rfl

theorem PM.Book.same (h : m.Book b) (hr : m'.req = m.req) (hc : m'.con = m.con) : m'.Book b :=
  h.of (fun x => by rw [hr]) (fun c _ => by rw [hc]) (fun c _ e => by rw [hc] at e; exact e)

theorem PM.Book.settle (h : m.Book b) : m.settle.Book b :=
  h.of (fun x => by rw [(settle_keys m).1]) (fun c _ => by rw [settle_con]) (fun c _ e => by rw [settle_con] at e; exact e)

theorem PM.Book.setRest (h : m.Book b) (k : Nat) (s : ByteArray) : (m.setRest k s).Book b := by
  refine h.of (fun x => Iff.rfl) (fun c _ => ?_) (fun c _ e => ?_)
  · simp only [PM.setRest, upd]
    split
    · rename_i e; subst e; rfl
    · rfl
  · simp only [PM.setRest, upd] at e
    split at e
    · rename_i e2; subst e2; exact e
    · exact e

theorem find_none_keys {k : Nat} {i : Int} (h : m.find k i = none) : ((k : Int), i) ∉ m.req.map keyR := by
  intro hm
  obtain ⟨r, hr, e⟩ := List.mem_map.1 hm
  have := bd_findFrom_none _ _ _ _ h r hr
  rw [isKey_iff.2 e] at this; cases this

theorem find_some_keys {k a' : Nat} {i : Int} (h : m.find k i = some a') : ((k : Int), i) ∈ m.req.map keyR := by
  obtain ⟨hal, e1, e2⟩ := m.find_some k i a' h
  exact List.mem_map.2 ⟨m.req[a'], List.getElem_mem hal, by simp [keyR, e1, e2]⟩

theorem PM.Book.begin_ (h : m.Book b) {k : Nat} (hk : k < 4) (ho : (m.con k).op = true) {i : Int} (hi : 1 ≤ i ∧ i ≤ 6) (hno : m.find k i = none) (role : ByteArray) : (m.begin_ k i role).Book (bump b k i) := by
  have hn := find_none_keys hno
  unfold PM.begin_
  cases (role.toList == [1])
  · exact h.refuse hk (by decide) hi hn ho
  · cases decide ((m.keysOf k).length ≥ 4)
    · exact h.add hk hi hn
    · exact h.refuse hk (by decide) hi hn ho

theorem PM.Book.in_ (h : m.Book b) {k : Nat} (hk : k < 4) (ho : (m.con k).op = true) (i : Int) (c : ByteArray) : (m.in_ k i c).Book b := by
  unfold PM.in_
  cases hf : m.find k i with
  | none => exact h
  | some a' =>
    have hin := find_some_keys hf
    obtain ⟨hal, e1, e2⟩ := m.find_some k i a' hf
    have hgd : m.req.getD a' noReq = m.req[a'] := by simp [List.getD, List.getElem?_eq_getElem hal]
    simp only [hgd]
    unfold PM.inAt
    cases (m.req[a'].stage == 0)
    · exact h
    · cases (c.toList == [])
      · cases decide (500 < (m.req[a'].body ++ c).size)
        · refine h.of (fun x => ?_) (fun _ _ => rfl) (fun _ _ e => e)
          show x ∈ (m.req.set a' { m.req[a'] with body := m.req[a'].body ++ c }).map keyR ↔ _
          rw [map_set_key m.req a' { m.req[a'] with body := m.req[a'].body ++ c } hal rfl]
        · exact h.endKey hk (by decide) hin ho
      · simp only [cond_true]
        unfold PM.enqueue
        cases m.room
        · exact h.endKey hk (by decide) hin ho
        · refine h.of (fun x => ?_) (fun _ _ => rfl) (fun _ _ e => e)
          show x ∈ (withoutL m.req k i ++ [(⟨k, i, 1, m.req[a'].body⟩ : Req)]).map keyR ↔ _
          rw [List.map_append, List.mem_append, mem_without]
          constructor
          · rintro (⟨h1, -⟩ | h1)
            · exact h1
            · rw [List.map_cons, List.map_nil, List.mem_singleton] at h1
              rw [h1]; exact hin
          · intro h1
            by_cases e : x = ((k : Int), i)
            · right; rw [e]; exact List.mem_singleton.2 rfl
            · exact .inl ⟨h1, e⟩

theorem PM.Book.abort (h : m.Book b) {k : Nat} (hk : k < 4) (ho : (m.con k).op = true) (i : Int) : (m.abort k i).Book b := by
  unfold PM.abort
  cases hf : m.find k i with
  | none => exact h
  | some a' =>
    have hin := find_some_keys hf
    obtain ⟨hc, hr⟩ := killAt_same m (m.slotOf k i)
    refine (h.same hr hc).endKey hk (by decide) (by rw [hr]; exact hin) (by rw [hc]; exact ho)

theorem PM.Book.take (h : m.Book b) {k : Nat} (hk : k < 4) (ho : (m.con k).op = true) (r : Rec) (hi : 1 ≤ r.2.1 ∧ r.2.1 ≤ 6) (hag : m.again k r.2.1 r.1 = false) : (m.take k r).Book (if r.1 = 1 then bump b k r.2.1 else b) := by
  unfold PM.take
  by_cases h1 : r.1 = 1
  · rw [if_pos h1, if_pos h1]
    refine h.begin_ hk ho hi ?_ _
    unfold PM.again at hag
    rw [h1] at hag
    simpa using hag
  · rw [if_neg h1, if_neg h1]
    split
    · exact h.in_ hk ho _ _
    · split
      · exact h.abort hk ho _
      · exact h

theorem feed_again (hd : m.Dry) (k : Nat) {s : ByteArray} (h2 : rcode true s = 2) (hag : m.again k (recT s).2.1 (recT s).1 = true) : m.feed k s = m.close k := by
  have e0 : (m.con k).rest ++ s = s := by rw [hd k]; exact ByteArray.empty_append
  unfold PM.feed
  rw [e0]
  unfold PM.takeAll
  rw [left_zero, h2, if_neg (by omega), if_neg (by omega), hag]
  rfl

theorem recB_rec (x : KSt) : recT x.recB = (x.rk, x.id, x.rc) := by
  have p1 := pickI_bd x.c 6 (by omega)
  have p2 := pickI_bd (x.c.tdiv 6) 8 (by omega)
  have p3 := pickI_bd x.b 4 (by omega)
  have hs := shortB_le x.s 200
  have hp : x.pad ≤ 7 := by unfold KSt.pad; omega
  have key : ∀ (k : Int) (c : ByteArray), isKindB k = true → c.size ≤ 200 → wrongB k c.size = false → recT (enc k x.id c (padL x.pad)) = (k, x.id, c) := by
    intro k c hk hc hw
    have hi : 1 ≤ x.id ∧ x.id ≤ 65535 := by unfold KSt.id; omega
    have hg : Go.Proofs.Ytlafkpaljibonaa.Good (k, x.id, c) (padL x.pad) := by
      refine ⟨?_, by rw [padL_length]; exact hp⟩
      unfold allowedB
      simp only [hk, Bool.true_and, Bool.and_eq_true, decide_eq_true_eq]
      omega
    exact (enc_rcode (k, x.id, c) (padL x.pad) hg hw).2.1
  unfold KSt.recB KSt.rk KSt.rc
  have hk : pickI x.b 4 = 0 ∨ pickI x.b 4 = 1 ∨ pickI x.b 4 = 2 ∨ pickI x.b 4 = 3 := by omega
  rcases hk with e | e | e | e
  · rw [e]; exact key 1 ⟨#[1]⟩ rfl (by decide) rfl
  · rw [e]; exact key 5 (shortB x.s 200) rfl hs rfl
  · rw [e]; exact key 5 ⟨#[]⟩ rfl (by decide) rfl
  · rw [e]; exact key 2 ⟨#[]⟩ rfl (by decide) rfl

theorem setRest_op (m : PM) (k : Nat) (s : ByteArray) (c : Nat) : ((m.setRest k s).con c).op = (m.con c).op := by
  simp only [PM.setRest, upd]
  split
  · rename_i e; subst e; rfl
  · rfl

/-- A whole record comes over an open connection. -/
theorem PM.Book.feed (h : m.Book b) (hd : m.Dry) {k : Nat} (hk : k < 4) (ho : (m.con k).op = true) {s : ByteArray} (h2 : rcode true s = 2) (hz : sizeT s = s.size) (hi : 1 ≤ (recT s).2.1 ∧ (recT s).2.1 ≤ 6) :
    (((m.feed k s).con k).op = false ∧ (recT s).1 = 1 ∧ (m.feed k s).Book b) ∨ (((m.feed k s).con k).op = true ∧ (m.feed k s).Book (if (recT s).1 = 1 then bump b k (recT s).2.1 else b)) := by
  cases hag : m.again k (recT s).2.1 (recT s).1
  · right
    rw [PM.feed_one m k (hd k) s h2 hz hag]
    refine ⟨?_, ((h.take hk ho (recT s) hi hag).settle).setRest k _⟩
    rw [setRest_op, settle_con, (ConSame.take m k (recT s) k).1]
    exact ho
  · left
    rw [feed_again hd k h2 hag]
    refine ⟨by rw [close_con, if_pos rfl], ?_, h.close k⟩
    unfold PM.again at hag
    simp only [Bool.and_eq_true, beq_iff_eq] at hag
    exact hag.2

theorem PM.Book.endKeyOf (h : m.Book b) (hl : m.Law a R P) (hP : ∀ c, P c → m.opn c) {k : Nat} (hk : k < 6) {st : Int} (hs : 0 ≤ st ∧ st ≤ 6) : (m.endKeyOf k st).Book b := by
  unfold PM.endKeyOf
  cases hc : ((m.slot k).conn != -1)
  · exact h
  · have hc' : (m.slot k).conn ≠ -1 := by simpa using hc
    rcases hl.conn hk with e | ⟨h0, h4, hPc, r, hr, e, -⟩
    · exact absurd e hc'
    · have hn : ((m.slot k).conn.toNat : Int) = (m.slot k).conn := Int.toNat_of_nonneg h0
      refine h.endKey (by omega) hs ?_ (hP _ hPc)
      rw [hn]; exact List.mem_map.2 ⟨r, hr, e⟩

theorem PM.Book.lateTo (h : m.Book b) (hl : m.Law a R P) (hP : ∀ c, P c → m.opn c) : ∀ k, k ≤ 6 → (m.lateTo k).Book b
  | 0, _ => h
  | k + 1, hk => by
    have ih := PM.Book.lateTo h hl hP k (by omega)
    have e : m.lateTo (k + 1) = cond ((m.lateTo k).lateAt k) (((m.lateTo k).endKeyOf k 6).kill k) (m.lateTo k) := rfl
    rw [e]
    cases (m.lateTo k).lateAt k
    · exact ih
    · refine PM.Book.same (m := (m.lateTo k).endKeyOf k 6) (ih.endKeyOf (lateTo_law hl k (by omega)).1 (fun c hc => ?_) (by omega) (by decide)) rfl rfl
      have := hP c hc
      unfold PM.opn at *
      rw [(ConSame.lateTo m k _).1]; exact this

theorem PM.Book.tick (h : m.Book b) (hs : m.Sure a R Q) : m.tick.Book b := by
  unfold PM.tick
  refine PM.Book.settle ?_
  have h1 : m.ticked.Book b := h.same rfl rfl
  have hl : m.ticked.Law a R m.opn := hs.law.same rfl rfl rfl
  have h2 : m.ticked.late.Book b := by
    unfold PM.late
    cases decide (0 < m.ticked.set.tmo)
    · exact h1
    · exact h1.lateTo hl (fun c hc => hc) 6 (Nat.le_refl _)
  unfold PM.tickS
  cases m.set.dyn
  · exact h2
  · simp only [cond_true]
    unfold PM.spares
    cases (decide (m.ticked.late.freshTo 6 < m.ticked.late.set.mn) && decide (m.ticked.late.usedTo 6 < m.ticked.late.set.ch))
    · cases decide (m.ticked.late.set.mx < m.ticked.late.inTo 2 6)
      · exact h2
      · obtain ⟨hc, hr⟩ := killAt_same m.ticked.late (m.ticked.late.lastTo 6)
        exact h2.same hr hc
    · simp only [cond_true]
      unfold PM.startOne
      cases m.ticked.late.emptyTo 6
      · exact h2
      · exact h2.same rfl rfl

theorem PM.Book.spawned (h : m.Book b) (k : Nat) : (m.spawned k).Book b := by
  unfold PM.spawned
  refine PM.Book.settle ?_
  cases (m.slot k).old <;> exact h.same rfl rfl

theorem PM.Book.finished (h : m.Book b) (hs : m.Sure a R Q) {k : Nat} (hk : k < 6) : (m.finished k).Book b := by
  unfold PM.finished PM.retires
  refine PM.Book.settle ?_
  have h1 := h.endKeyOf hs.law (fun c hc => hc) hk (st := 0) (by decide)
  cases (m.endKeyOf k 0).mustGo k <;> exact h1.same rfl rfl

theorem PM.Book.died (h : m.Book b) (hs : m.Sure a R Q) {k : Nat} (hk : k < 6) : (m.died k).Book b := by
  unfold PM.died
  exact PM.Book.settle (PM.Book.same (m := m.endKeyOf k 1) (h.endKeyOf hs.law (fun c hc => hc) hk (st := 1) (by decide)) rfl rfl)

theorem PM.Book.turn (h : m.Book b) (hs : m.Sure a R Q) {k : Nat} (hk : k < 6) : (m.turn k).Book b := by
  unfold PM.turn
  split
  · exact h.spawned k
  split
  · exact h.finished hs hk
  split
  · exact h.died hs hk
  · exact h

theorem PM.Book.turnTo (h : m.Book b) (hs : m.Sure a R Q) : ∀ k, k ≤ 6 → (m.turnTo k).Book b
  | 0, _ => h
  | k + 1, hk => (PM.Book.turnTo h hs k (by omega)).turn (hs.turnTo k (by omega)) (by omega)

theorem PM.Book.rounds (h : m.Book b) (hs : m.Sure a R Q) (hr : m.Ripe) : ∀ n, (m.rounds n).Book b
  | 0 => h
  | n + 1 => by
    obtain ⟨s1, -, -⟩ := rounds_good hs hr n
    exact ((PM.Book.rounds h hs hr n).turnTo s1 6 (Nat.le_refl _)).tick (s1.turnTo 6 (Nat.le_refl _))

/-- How often each Id was begun, behind one step more. -/
def begB (b : Nat → Int → Int) (m : PM) (x : KSt) : Nat → Int → Int :=
  if x.ki = 0 ∧ (m.con x.cn.toNat).op = false then anewB b x.cn.toNat
  else if x.ki = 2 ∧ (m.con x.cn.toNat).op = true ∧ ((m.doM x).con x.cn.toNat).op = true ∧ pickI x.b 4 = 0 then bump b x.cn.toNat x.id else b

theorem begB_other {x : KSt} (h0 : x.ki ≠ 0) (h2 : x.ki ≠ 2) : begB b m x = b := by
  unfold begB
  rw [if_neg (fun e => h0 e.1), if_neg (fun e => h2 e.1)]

theorem cn_nat (x : KSt) : x.cn.toNat < 4 ∧ (x.cn.toNat : Int) = x.cn ∧ isC x.cn = true := by
  have p := pickI_bd x.a 4 (by omega)
  unfold KSt.cn
  refine ⟨by omega, by omega, ?_⟩
  simp only [isC, Bool.and_eq_true, decide_eq_true_eq]
  omega

theorem rk_one (x : KSt) : x.rk = 1 ↔ pickI x.b 4 = 0 := by
  unfold KSt.rk
  constructor
  · intro h
    split at h
    · assumption
    · repeat' split at h
      all_goals cases h
  · intro h; rw [if_pos h]

theorem PM.Book.doM (h : m.Book b) (hd : m.Dry) (hs : m.Sure a R Q) (x : KSt) : (m.doM x).Book (begB b m x) := by
  obtain ⟨hc4, hcn, hC⟩ := cn_nat x
  have p := pickI_bd x.kind 9 (by omega)
  by_cases k0 : x.ki = 0
  · have e : m.doM x = m.afterConnect x.cn := by unfold PM.doM; rw [if_pos k0]
    rw [e]
    unfold PM.afterConnect
    rw [hC]
    cases ho : (m.con x.cn.toNat).op
    · have eb : begB b m x = anewB b x.cn.toNat := by unfold begB; rw [if_pos ⟨k0, ho⟩]
      rw [eb]
      refine h.connect (fun i hm => ?_)
      obtain ⟨r, hr, er⟩ := List.mem_map.1 hm
      have h1 := (hs.law.okc r hr).2
      have h2 : r.conn = (x.cn.toNat : Int) := congrArg Prod.fst er
      unfold PM.opn at h1
      rw [h2, Int.toNat_natCast, ho] at h1
      cases h1
    · have eb : begB b m x = b := by
        unfold begB
        rw [if_neg (fun e => by rw [ho] at e; cases e.2), if_neg (fun e => by omega)]
      rw [eb]; exact h
  by_cases k2 : x.ki = 2
  · have e : m.doM x = m.afterFeed x.cn x.recB := by unfold PM.doM; rw [if_neg k0, if_neg (by omega), if_pos k2]
    cases ho : (m.con x.cn.toNat).op
    · have eb : begB b m x = b := by
        unfold begB
        rw [if_neg (fun e => k0 e.1), if_neg (fun e => by rw [ho] at e; cases e.2.1)]
      rw [eb, e]
      unfold PM.afterFeed PM.chk
      rw [hC, ho]
      exact h
    · have e2 : m.doM x = m.feed x.cn.toNat x.recB := by
        rw [e]
        unfold PM.afterFeed PM.chk
        rw [hC, ho]
        rfl
      obtain ⟨r2, rz⟩ := recB_two x
      have hrec := recB_rec x
      have hid : 1 ≤ x.id ∧ x.id ≤ 6 := by
        have := pickI_bd x.c 6 (by omega)
        unfold KSt.id; omega
      rcases h.feed hd hc4 ho r2 rz (by rw [hrec]; exact hid) with ⟨f1, f2, f3⟩ | ⟨f1, f2⟩
      · have eb : begB b m x = b := by
          unfold begB
          rw [if_neg (fun e => k0 e.1), if_neg (fun e => by rw [e2, f1] at e; cases e.2.2.1)]
        rw [eb, e2]; exact f3
      · rw [hrec] at f2
        have eb : begB b m x = if x.rk = 1 then bump b x.cn.toNat x.id else b := by
          unfold begB
          rw [if_neg (fun e => k0 e.1)]
          by_cases hr : x.rk = 1
          · rw [if_pos hr, if_pos ⟨k2, ho, by rw [e2]; exact f1, (rk_one x).1 hr⟩]
          · rw [if_neg hr, if_neg (fun e => hr ((rk_one x).2 e.2.2.2))]
        rw [eb, e2]; exact f2
  rw [begB_other k0 k2]
  unfold PM.doM
  rw [if_neg k0]
  split
  · unfold PM.afterHangup
    cases (m.chk x.cn == 0)
    · exact h
    · exact h.close _
  split
  · unfold PM.afterSpawned
    cases (m.stE x.sn 1 == 0)
    · exact h
    · exact h.spawned _
  split
  · unfold PM.afterOutput
    cases hst : (m.stE x.sn 3 == 0)
    · exact h
    · obtain ⟨k, hk, e1, -⟩ := bdStE hst
      rw [e1]
      simp only [cond_true, Int.toNat_natCast]
      unfold PM.outputs
      refine PM.Book.settle ?_
      cases hc : ((m.slot k).conn != -1)
      · exact h
      · have hc' : (m.slot k).conn ≠ -1 := by simpa using hc
        rcases hs.law.conn hk with e | ⟨h0, h4, hPc, r, hr, e, -⟩
        · exact absurd e hc'
        · have hn : ((m.slot k).conn.toNat : Int) = (m.slot k).conn := Int.toNat_of_nonneg h0
          unfold PM.sendOut
          exact h.outN (by rw [hn]; exact List.mem_map.2 ⟨r, hr, e⟩) hPc _ _ h rfl hPc
  split
  · unfold PM.afterFinished
    cases hst : (m.stE x.sn 3 == 0)
    · exact h
    · obtain ⟨k, hk, e1, -⟩ := bdStE hst
      rw [e1]
      exact h.finished hs hk
  split
  · unfold PM.afterDied
    cases hst : (m.diedE x.sn == 0)
    · exact h
    · have hn : x.sn.toNat < 6 := by
        have := pickI_bd x.a 6 (by omega)
        unfold KSt.sn; omega
      exact h.died hs hn
  split
  · exact h.tick hs
  · unfold PM.afterReload
    cases (setC x.set).ok
    · exact h
    · obtain ⟨e1, e2⟩ := agesTo_same (m.withSet (setC x.set)) 6
      exact PM.Book.settle (PM.Book.same (m := m) h e1 e2)

/-- As `Sure`, whatever the bounds are. -/
def PM.Well (m : PM) : Prop := ∃ a R Q, m.Sure a R Q

theorem PM.Well.doM (h : m.Well) (x : KSt) : (m.doM x).Well := by
  obtain ⟨a, R, Q, h⟩ := h
  have p := pickI_bd x.kind 9 (by omega)
  by_cases e : x.ki < 8
  · exact ⟨a, R, Q, h.doM x e⟩
  · have e8 : x.ki = 8 := by unfold KSt.ki at *; omega
    exact ⟨true, max R (setC x.set).ch, max Q (setC x.set).bl, h.doM8 x e8 (setC_ok _) (Int.le_max_left _ _) (Int.le_max_right _ _) (Int.le_max_left _ _) (Int.le_max_right _ _)⟩

/-- A key of this connection and Id is collecting. -/
def PM.Coll (m : PM) (c i : Int) : Prop := ∃ r ∈ m.req, keyR r = (c, i) ∧ r.stage = 0

theorem coll_settle {c i : Int} (h : m.settle.Coll c i) : m.Coll c i := by
  have lease : ∀ (n : Nat) (m : PM), (m.leaseTo n).Coll c i → m.Coll c i := by
    intro n
    induction n with
    | zero => intro m h; exact h
    | succ n ih =>
      intro m h
      have h' : ((m.leaseTo n).leaseAt n).Coll c i := h
      rcases (m.leaseTo n).leaseAt_cases n with e | ⟨j, hj, -, h1, h2, e⟩
      · rw [e] at h'; exact ih m h'
      · rw [e] at h'
        obtain ⟨r, hr, e1, e2⟩ := h'
        rcases List.mem_or_eq_of_mem_set hr with e3 | rfl
        · exact ih m ⟨r, e3, e1, e2⟩
        · cases e2
  unfold PM.settle PM.leaseWaiting at h
  have h1 := lease 6 _ h
  cases hd : m.set.dyn
  · rw [hd] at h1
    obtain ⟨r, hr, e⟩ := h1
    refine ⟨r, ?_, e⟩
    have : (cond false m m.startMissing).req = m.req := missing_req m _ 6
    rw [this] at hr; exact hr
  · rw [hd] at h1; exact h1

/-- A key comes to its end. -/
theorem coll_end {c' i' : Int} (hd : m.Dry) (hs : m.Sure a R Q) {k : Nat} {i : Int} (hi : 1 ≤ i ∧ i ≤ 6) (h : (m.feed k (enc 5 i ⟨#[]⟩ [])).Coll c' i') : m.Coll c' i' ∧ (c', i') ≠ ((k : Int), i) := by
  obtain ⟨h1, h2, h3⟩ := enc_rcode (5, i, ⟨#[]⟩) [] ⟨by simp [allowedB, isKindB, ByteArray.size]; omega, by simp⟩ rfl
  have h1 : rcode true (enc 5 i ⟨#[]⟩ []) = 2 := h1
  have h2 : recT (enc 5 i ⟨#[]⟩ []) = (5, i, ⟨#[]⟩) := h2
  have h3 : sizeT (enc 5 i ⟨#[]⟩ []) = (enc 5 i ⟨#[]⟩ []).size := h3
  have hag : m.again k (recT (enc 5 i ⟨#[]⟩ [])).2.1 (recT (enc 5 i ⟨#[]⟩ [])).1 = false := by
    rw [h2]
    unfold PM.again
    simp
  rw [PM.feed_one m k (hd k) _ h1 h3 hag, h2] at h
  have h : (m.take k (5, i, ⟨#[]⟩)).settle.Coll c' i' := h
  have h := coll_settle h
  have et : m.take k (5, i, ⟨#[]⟩) = m.in_ k i ⟨#[]⟩ := by
    unfold PM.take
    rw [if_neg (by simp), if_pos rfl]
  rw [et] at h
  unfold PM.in_ at h
  cases hf : m.find k i with
  | none =>
    rw [hf] at h
    refine ⟨h, fun e => find_none_keys hf ?_⟩
    obtain ⟨r, hr, e1, -⟩ := h
    exact List.mem_map.2 ⟨r, hr, e1.trans e⟩
  | some a' =>
    rw [hf] at h
    obtain ⟨hal, e1, e2⟩ := m.find_some k i a' hf
    have hgd : m.req.getD a' noReq = m.req[a'] := by simp [List.getD, List.getElem?_eq_getElem hal]
    simp only [hgd] at h
    have kk : keyR m.req[a'] = ((k : Int), i) := by simp [keyR, e1, e2]
    unfold PM.inAt at h
    cases h0 : (m.req[a'].stage == 0)
    · rw [h0] at h
      have h : m.Coll c' i' := h
      refine ⟨h, fun e => ?_⟩
      obtain ⟨r, hr, e3, e4⟩ := h
      have := nodup_key hs.law.dis hr (List.getElem_mem hal) ((e3.trans e).trans kk.symm)
      rw [this] at e4
      rw [e4] at h0; cases h0
    · have en : ((⟨#[]⟩ : ByteArray).toList == []) = true := by rw [ba_nil_iff]; rfl
      rw [h0, en] at h
      simp only [cond_true] at h
      have sub : ∀ r, r ∈ withoutL m.req k i → keyR r = (c', i') → r.stage = 0 → m.Coll c' i' ∧ (c', i') ≠ ((k : Int), i) := by
        intro r hr e3 e4
        obtain ⟨q1, q2⟩ := List.mem_filter.1 hr
        refine ⟨⟨r, q1, e3, e4⟩, fun e => ?_⟩
        rw [isKey_iff.2 (e3.trans e)] at q2; cases q2
      unfold PM.enqueue at h
      cases hrm : m.room
      · rw [hrm] at h
        obtain ⟨r, hr, e3, e4⟩ := h
        have hr : r ∈ (m.endKey k i 2).req := hr
        rw [endKey_req] at hr
        exact sub r hr e3 e4
      · rw [hrm] at h
        obtain ⟨r, hr, e3, e4⟩ := h
        have hr : r ∈ withoutL m.req k i ++ [⟨k, i, 1, m.req[a'].body⟩] := hr
        rcases List.mem_append.1 hr with q | q
        · exact sub r q e3 e4
        · rw [List.mem_singleton.1 q] at e4; cases e4

end
end Go.Proofs.Ytlafkpaljibonaa

namespace Go.Proofs.Ytlafkpaljibonaa
open Go.RowKit

theorem code_nil : code ⟨#[]⟩ = 0 := by
  unfold code
  rw [if_pos]
  show ((0 : Nat) : Int) < 8
  omega

theorem tells_good {f : Int → Int} {L : List Rec} (h : Tells f L) : ∀ x ∈ L.map (fun r => (r, ([] : List Int))), Good x.1 x.2 := by
  intro x hx
  obtain ⟨r, hr, rfl⟩ := List.mem_map.1 hx
  obtain ⟨k, hk, rfl⟩ := List.getElem_of_mem hr
  obtain ⟨⟨h1, h2⟩, -⟩ := h k hk
  refine ⟨?_, by simp⟩
  rcases h2 with ⟨e, s, h3, h4, e2⟩ | ⟨e, h3, h4⟩
  · have : L[k].2.2.size = 1 := by rw [e2, strOfNums_size]; rfl
    simp [allowedB, isKindB, e, this]; omega
  · simp [allowedB, isKindB, e]; omega

/-- What was sent is read back. -/
theorem sent_dec {f : Int → Int} {L : List Rec} (h : Tells f L) : decL (strOfNums (sentOf L)) = L ∧ decN (strOfNums (sentOf L)) = (strOfNums (sentOf L)).size ∧ decE (strOfNums (sentOf L)) = 0 := by
  have := dec_all (L.map fun r => (r, [])) (tells_good h) [] 0 (fun f hf s i hl => dec_zero (by rw [hl]; exact code_nil))
  rw [List.append_nil] at this
  obtain ⟨h1, h2, h3⟩ := this
  refine ⟨?_, ?_, h3⟩
  · refine Eq.trans h1 ?_
    rw [List.map_map]
    exact List.map_id L
  · rw [strOfNums_size]; exact h2

theorem sentOf_len (L : List Rec) : L.length ≤ (strOfNums (sentOf L)).size := by
  rw [strOfNums_size]
  have := encAll_len (L.map fun r => (r, ([] : List Int)))
  simpa [sentOf] using this

theorem endsL_le (L : List Rec) (i : Int) : endsL L i ≤ L.length := List.countP_le_length

theorem endsL_next (L : List Rec) (k : Nat) (hk : k < L.length) (i : Int) : endsL (L.take (k + 1)) i = endsL (L.take k) i + (if L[k].1 = 3 ∧ L[k].2.1 = i then 1 else 0) := by
  rw [← List.take_append_getElem hk, endsL_snoc]

/-- Seven numbers in a row. -/
def rowB (f : Int → Int) : List Value := [.int .i64 (f 0), .int .i64 (f 1), .int .i64 (f 2), .int .i64 (f 3), .int .i64 (f 4), .int .i64 (f 5), .int .i64 (f 6)]
def endsF (L : List Rec) : Int → Int := fun i => endsL L i

theorem rowB_get (f : Int → Int) (j : Nat) (hj : j < 7) : (rowB f)[j]? = some (.int .i64 (f j)) := by
  rcases j with _ | _ | _ | _ | _ | _ | _ | j <;> first | rfl | omega

theorem rowB_len (f : Int → Int) : (rowB f).length = 7 := rfl

theorem rowB_set (f g : Int → Int) (j : Nat) (hj : j < 7) (h1 : ∀ i, i ≠ (j : Int) → g i = f i) : (rowB f).set j (.int .i64 (g j)) = rowB g := by
  refine List.ext_getElem? fun n => ?_
  rw [List.getElem?_set]
  by_cases hn : n < 7
  · rw [rowB_get g n hn]
    by_cases e : j = n
    · subst e
      rw [if_pos rfl, if_pos (by rw [rowB_len]; exact hn)]
    · rw [if_neg e, rowB_get f n hn, h1 n (by omega)]
  · rw [if_neg (by omega), List.getElem?_eq_none (by rw [rowB_len]; omega), List.getElem?_eq_none (by rw [rowB_len]; omega)]

theorem ends_end (L : List Rec) (k : Nat) (hk : k < L.length) (j : Nat) (hj : j < 7) (e1 : L[k].1 = 3) (e2 : L[k].2.1 = j) : (rowB (endsF (L.take k))).set j (.int .i64 (endsF (L.take k) j + 1)) = rowB (endsF (L.take (k + 1))) := by
  have e : endsF (L.take (k + 1)) j = endsF (L.take k) j + 1 := by
    unfold endsF
    rw [endsL_next L k hk, if_pos ⟨e1, e2⟩]
    omega
  rw [← e]
  refine rowB_set _ _ j hj fun i hi => ?_
  unfold endsF
  rw [endsL_next L k hk, if_neg (fun x => hi (x.2.symm.trans e2))]
  rfl

theorem ends_out (L : List Rec) (k : Nat) (hk : k < L.length) (e1 : L[k].1 ≠ 3) : endsF (L.take (k + 1)) = endsF (L.take k) := by
  funext i
  unfold endsF
  rw [endsL_next L k hk, if_neg (fun x => e1 x.1)]
  rfl

/-- Four times seven numbers. -/
def begC (b : Nat → Int → Int) : List Value := rowB (b 0) ++ rowB (b 1) ++ rowB (b 2) ++ rowB (b 3)

theorem begC_get (b : Nat → Int → Int) (c j : Nat) (hc : c < 4) (hj : j < 7) : (begC b)[c * 7 + j]? = some (.int .i64 (b c j)) := by
  rcases c with _ | _ | _ | _ | c
  all_goals first
    | omega
    | (rcases j with _ | _ | _ | _ | _ | _ | _ | j <;> first | rfl | omega)

theorem begC_bump (b : Nat → Int → Int) (c j : Nat) (hc : c < 4) (hj : j < 7) : (begC b).set (c * 7 + j) (.int .i64 (b c j + 1)) = begC (bump b c j) := by
  rcases c with _ | _ | _ | _ | c
  all_goals first
    | omega
    | (rcases j with _ | _ | _ | _ | _ | _ | _ | j <;> first | omega | simp [begC, rowB, bump])

def zero7 : List Value := rowB fun _ => 0
/-- Values laid over a row from a place on. -/
def overL (C : List Value) : Nat → List Value → List Value
  | _, [] => C
  | o, v :: vs => overL (C.set o v) (o + 1) vs

theorem begC_anew (b : Nat → Int → Int) (c : Nat) (hc : c < 4) : overL (begC b) (c * 7) zero7 = begC (anewB b c) := by
  rcases c with _ | _ | _ | _ | c
  all_goals first
    | omega
    | simp [begC, rowB, anewB, zero7, overL]

theorem Blk.setCells {w : World} {b : Nat} {T : TypeId} : ∀ (vs : List Value) {w : World} {C : List Value} (o : Nat), Blk w b T C → Blk (w.setCells b o vs) b T (overL C o vs)
  | [], _, _, _, h => h
  | v :: vs, _, _, o, h => Blk.setCells (w := w) vs (o + 1) (h.set o v)

theorem begC_row (b : Nat → Int → Int) (c : Nat) (hc : c < 4) : ∀ j v, (rowB (b c))[j]? = some v → (begC b)[c * 7 + j]? = some v := by
  intro j v h
  have hj : j < 7 := by
    obtain ⟨hj, -⟩ := List.getElem?_eq_some_iff.1 h
    rw [rowB_len] at hj; exact hj
  rw [begC_get b c j hc hj, ← h, rowB_get _ j hj]

/-- How often each Id was begun, behind k steps. -/
def PM.begTo (m : PM) (X : Nat → KSt) : Nat → Nat → Int → Int
  | 0 => fun _ _ => 0
  | k + 1 => begB (m.begTo X k) (m.doTo X k) (X k)

theorem begTo_bd (m : PM) (X : Nat → KSt) : ∀ k c i, 0 ≤ m.begTo X k c i ∧ m.begTo X k c i ≤ k
  | 0, _, _ => ⟨Int.le_refl _, Int.le_refl _⟩
  | k + 1, c, i => by
    have ih := begTo_bd m X k c i
    have e : m.begTo X (k + 1) = begB (m.begTo X k) (m.doTo X k) (X k) := rfl
    rw [e]
    unfold begB
    split
    · unfold anewB
      split <;> omega
    · split
      · unfold bump
        split <;> omega
      · omega

theorem new_book (c : Cfg) : (newPM c).Book (fun _ _ => 0) := by
  have h0 : (rawPM c).Book (fun _ _ => 0) :=
    ⟨(fun r hr => by cases hr), fun c hc => ⟨[], rfl, tells_nil _, (fun e => by cases e)⟩⟩
  exact h0.settle

/-- All that Drained needs of a state. -/
structure PM.Tidy (m : PM) (b : Nat → Int → Int) : Prop where
  well : m.Well
  dry : m.Dry
  book : m.Book b

theorem PM.Tidy.doM {m : PM} {b : Nat → Int → Int} (h : m.Tidy b) (x : KSt) : (m.doM x).Tidy (begB b m x) := by
  obtain ⟨a, R, Q, hs⟩ := h.well
  exact ⟨h.well.doM x, h.dry.doM x, h.book.doM h.dry hs x⟩

theorem new_tidy (c : Cfg) (hc : c.ok = true) : (newPM c).Tidy (fun _ _ => 0) := ⟨⟨_, _, _, new_sure c hc⟩, new_dry c, new_book c⟩

theorem PM.Tidy.doTo {m : PM} (h : m.Tidy (fun _ _ => 0)) (X : Nat → KSt) : ∀ k, (m.doTo X k).Tidy (m.begTo X k)
  | 0 => h
  | k + 1 => (PM.Tidy.doTo h X k).doM (X k)

theorem PM.Book.told {m : PM} {b : Nat → Int → Int} (h : m.Book b) {c : Nat} (hc : c < 4) : ∃ L, m.sent_ c = strOfNums (sentOf L) ∧ strOfNums (m.con c).sent = strOfNums (sentOf L) ∧ Tells (b c) L ∧
    ((m.con c).op = true → ∀ i, b c i = endsL L i + (if ((c : Int), i) ∈ m.req.map keyR then 1 else 0)) := by
  obtain ⟨L, h1, h2, h3⟩ := h.line c hc
  refine ⟨L, ?_, h1, h2, h3⟩
  unfold PM.sent_
  rw [show isC (c : Int) = true from by simp [isC]; omega]
  exact h1

theorem PM.Fit.sent {m : PM} {B : Nat} (h : m.Fit B) {c : Nat} (hc : c < 4) : (strOfNums (m.con c).sent).size ≤ 208 * B := by
  rw [strOfNums_size]; exact h.small.sent c hc

/-- Behind an In with nothing of an open connection. -/
theorem PM.Tidy.ends {m : PM} {b : Nat → Int → Int} (h : m.Tidy b) {k : Nat} (hk : k < 4) (ho : (m.con k).op = true) {i : Int} (hi : 1 ≤ i ∧ i ≤ 6) :
    (m.afterFeed k (enc 5 i ⟨#[]⟩ [])).Tidy b ∧ (∀ c, ((m.afterFeed k (enc 5 i ⟨#[]⟩ [])).con c).op = (m.con c).op) ∧ ∀ c' i', (m.afterFeed k (enc 5 i ⟨#[]⟩ [])).Coll c' i' → m.Coll c' i' ∧ (c', i') ≠ ((k : Int), i) := by
  obtain ⟨a, R, Q, hs⟩ := h.well
  obtain ⟨h1, h2, h3⟩ := enc_rcode (5, i, ⟨#[]⟩) [] ⟨by simp [allowedB, isKindB, ByteArray.size]; omega, by simp⟩ rfl
  have h1 : rcode true (enc 5 i ⟨#[]⟩ []) = 2 := h1
  have h2 : recT (enc 5 i ⟨#[]⟩ []) = (5, i, ⟨#[]⟩) := h2
  have h3 : sizeT (enc 5 i ⟨#[]⟩ []) = (enc 5 i ⟨#[]⟩ []).size := h3
  have hC : isC (k : Int) = true := by simp [isC]; omega
  have e : m.afterFeed k (enc 5 i ⟨#[]⟩ []) = m.feed k (enc 5 i ⟨#[]⟩ []) := by
    unfold PM.afterFeed PM.chk
    rw [hC, Int.toNat_natCast, ho]
    rfl
  have hag : m.again k (recT (enc 5 i ⟨#[]⟩ [])).2.1 (recT (enc 5 i ⟨#[]⟩ [])).1 = false := by
    rw [h2]
    unfold PM.again
    simp
  have hS := hs.afterFeed k (enc 5 i ⟨#[]⟩ [])
  rw [e] at hS ⊢
  refine ⟨⟨⟨a, R, Q, hS⟩, h.dry.feed k h1 h3, ?_⟩, fun c => ?_, fun c' i' hc => coll_end h.dry hs hi hc⟩
  · rcases h.book.feed h.dry hk ho h1 h3 (by rw [h2]; exact hi) with ⟨-, f, -⟩ | ⟨-, f⟩
    · rw [h2] at f; cases f
    · rw [h2] at f
      rw [if_neg (by simp)] at f
      exact f
  · rw [PM.feed_one m k (h.dry k) _ h1 h3 hag, setRest_op, settle_con, (ConSame.take m k _ c).1]

/-- Which keys are still to be looked at: those of the connections from k on, and of k those from i on. -/
theorem ripe_of {m : PM} {b : Nat → Int → Int} (h : m.Tidy b) (hn : ∀ c i, c < 4 → 1 ≤ i → i ≤ 6 → (m.con c).op = true → ¬ m.Coll (c : Int) i) : m.Ripe := by
  obtain ⟨a, R, Q, hs⟩ := h.well
  intro r hr h0
  obtain ⟨⟨n, hn4, e⟩, hop⟩ := hs.law.okc r hr
  have hi := h.book.ids r hr
  rw [e] at hop
  refine hn n r.id hn4 hi.1 hi.2 hop ⟨r, hr, ?_, h0⟩
  simp [keyR, e]

/-- What 150 rounds leave. -/
theorem drained_end {m : PM} {b : Nat → Int → Int} (h : m.Tidy b) (hr : m.Ripe) : ∃ N, N = m.rounds 150 ∧ N.Book b ∧ N.req = [] ∧ N.waits = [] ∧ ∀ s, s < 6 → (N.slot s).conn = -1 := by
  obtain ⟨a, R, Q, hs⟩ := h.well
  obtain ⟨s1, -, -⟩ := rounds_good hs hr 150
  have h1 := h.book.rounds hs hr 150
  have h2 := rounds_done hs hr h.book.ids
  refine ⟨_, rfl, h1, h2, ?_, fun s h6 => ?_⟩
  · unfold PM.waits; rw [h2]; rfl
  · rcases s1.law.key s h6 with e | ⟨r, hr, -⟩
    · exact e
    · rw [h2] at hr; cases hr

end Go.Proofs.Ytlafkpaljibonaa

namespace Go.Proofs.Ytlafkpaljibonaa
open Go.RowKit

section
variable {o : Nat → Tag} {q B : Nat} {w : World} {b : Nat} {m : PM} {sv : Nat → Value} {rv : Value}

theorem turn_after {j : Nat} (hj : j < 6) : m.turn j = if (m.slot j).st = 1 then m.afterSpawned j else if (m.slot j).st = 3 then m.afterFinished j else if (m.slot j).st = 4 then m.afterDied j else m := by
  unfold PM.turn
  split
  · rename_i e; rw [spawned_at hj e]
  split
  · rename_i e; rw [finished_at hj e]
  split
  · rename_i e; rw [died_at hj (by omega)]
  · rfl

theorem PM.Fit.turn (h : m.Fit B) {j : Nat} (hj : j < 6) : (m.turn j).Fit (B + 1) := by
  rw [turn_after hj]
  split
  · exact (h.afterSpawned _).mono (by omega)
  split
  · exact h.afterFinished _
  split
  · exact h.afterDied _
  · exact h.mono (by omega)

theorem PM.Fit.turnTo (h : m.Fit B) : ∀ k, k ≤ 6 → (m.turnTo k).Fit (B + k)
  | 0, _ => h
  | k + 1, hk => (PM.Fit.turnTo h k (by omega)).turn (by omega)

theorem PM.Fit.round (h : m.Fit B) : m.round.Fit (B + 12) := (h.turnTo 6 (Nat.le_refl _)).tick

theorem PM.Fit.rounds (h : m.Fit B) : ∀ n, (m.rounds n).Fit (B + 12 * n)
  | 0 => h
  | n + 1 => (PM.Fit.rounds h n).round

set_option maxRecDepth 100000 in
set_option maxHeartbeats 4000000 in
theorem roundW_any (h : FMem o q w b m sv rv) (hq : q ≠ 0) (hf : m.Fit B) (hB : B ≤ 47000000) :
    Calls Try.prog 43 #[.pointer (some ⟨b, 0, none⟩)] w fun r w' => r = .returned (.tuple #[]) ∧ Left o q w b m.round w' := by
  go_enter Try.func43, Try.ntmps43
  go_wp2
  go_loopw [2] (fun i w' => ∃ k : Nat, k ≤ 6 ∧ i = .int .i64 k ∧ Left o q w b (m.turnTo k) w') (fun i _ => 6 - (intOf i).toNat)
  case atStart => exact ⟨0, by omega, rfl, o, sv, rv, h, Fr.refl h.clean⟩
  case round =>
    obtain ⟨k, hk, rfl, o1, sv1, rv1, hm, fr⟩ := hrel
    by_cases hlt : k < 6
    · have hkI : (k : Int) < 6 := by omega
      have hFit := hf.turnTo k (by omega)
      have HT : Hid (m.turnTo (k + 1) = (m.turnTo k).turn k) := rfl
      have hta := turn_after (m := m.turnTo k) hlt
      generalize m.turnTo k = M at *
      have es : isS (k : Int) = true := by simp [isS]; omega
      have e1 : M.slotV (k : Int) = .agg #[.int .i64 (M.slot k).st, .bool (M.slot k).old, .int .i64 (M.slot k).served, .int .i64 (M.slot k).since, .int .i64 (M.slot k).conn, .int .i64 (M.slot k).id] := by unfold PM.slotV; rw [es]; rfl
      have e2 : slotE (k : Int) = 0 := by unfold slotE; rw [es]; rfl
      have kl : Hid (Calls Try.prog 35 #[.pointer (some ⟨b, 0, none⟩), .int .i64 k] wr fun r w'' => r = .returned (.tuple #[.agg #[.int .i64 (M.slot k).st, .bool (M.slot k).old, .int .i64 (M.slot k).served, .int .i64 (M.slot k).since, .int .i64 (M.slot k).conn, .int .i64 (M.slot k).id], .int .i64 0]) ∧ Below wr.heap.size wr w'') := by
        have := slot_any hm (k : Int)
        rw [e1, e2] at this
        exact this
      have k1 : Hid (∀ w', Below wr.heap.size wr w' → Calls Try.prog 34 #[.pointer (some ⟨b, 0, none⟩), .int .i64 k] w' fun r w'' => r = .returned (.int .i64 (M.stE k 1)) ∧ Left o1 q w' b (M.afterSpawned k) w'') := fun w' hb => spawned_left (hm.below hb) k
      have k3 : Hid (∀ w', Below wr.heap.size wr w' → Calls Try.prog 53 #[.pointer (some ⟨b, 0, none⟩), .int .i64 k] w' fun r w'' => r = .returned (.int .i64 (M.stE k 3)) ∧ Left o1 q w' b (M.afterFinished k) w'') := fun w' hb => finished_left (hm.below hb) hq hFit (by omega) k
      have k4 : Hid (∀ w', Below wr.heap.size wr w' → Calls Try.prog 54 #[.pointer (some ⟨b, 0, none⟩), .int .i64 k] w' fun r w'' => r = .returned (.int .i64 (M.diedE k)) ∧ Left o1 q w' b (M.afterDied k) w'') := fun w' hb => died_left (hm.below hb) hq hFit (by omega) k
      have hfin : ∀ w1 w2 M', Below wr.heap.size wr w1 → Left o1 q w1 b M' w2 → Left o q w b M' w2 := by
        intro w1 w2 M' hb1 hl
        obtain ⟨o2, sv2, rv2, h2, f2⟩ := Left.from hm.clean hb1 hl
        exact ⟨o2, sv2, rv2, h2, fr.trans f2⟩
      generalize M.stE k 1 = E1 at *
      generalize M.stE k 3 = E3 at *
      generalize M.diedE k = E4 at *
      generalize (M.slot k).st = st at *
      generalize (M.slot k).old = s1 at *
      generalize (M.slot k).served = s2 at *
      generalize (M.slot k).since = s3 at *
      generalize (M.slot k).conn = s4 at *
      generalize (M.slot k).id = s5 at *
      go_wp2_with fail
      refine kl.out.mono ?_
      rintro e w1 ⟨rfl, hb1⟩
      have hb2 : Below wr.heap.size wr (w1.alloc (.cells #[.int .i64 st, .bool s1, .int .i64 s2, .int .i64 s3, .int .i64 s4, .int .i64 s5] 58)) := hb1.trans (((Below.refl _ _).alloc (Nat.le_refl _) _).mono hb1.size)
      by_cases h1 : st = 1
      · subst h1
        rw [if_pos rfl] at hta
        go_wp2_with fail
        refine (k1.out _ hb2).mono ?_
        rintro e w3 ⟨rfl, hl⟩
        go_wp2
        exact ⟨⟨k + 1, by omega, by go_num, by rw [HT.out, hta]; exact hfin _ _ _ hb2 hl⟩, by simp [intOf]; omega⟩
      · rw [if_neg h1] at hta
        by_cases h3 : st = 3
        · subst h3
          rw [if_pos rfl] at hta
          go_wp2_with fail
          refine (k3.out _ hb2).mono ?_
          rintro e w3 ⟨rfl, hl⟩
          go_wp2
          exact ⟨⟨k + 1, by omega, by go_num, by rw [HT.out, hta]; exact hfin _ _ _ hb2 hl⟩, by simp [intOf]; omega⟩
        · rw [if_neg h3] at hta
          by_cases h4 : st = 4
          · subst h4
            rw [if_pos rfl] at hta
            go_wp2_with fail
            refine (k4.out _ hb2).mono ?_
            rintro e w3 ⟨rfl, hl⟩
            go_wp2
            exact ⟨⟨k + 1, by omega, by go_num, by rw [HT.out, hta]; exact hfin _ _ _ hb2 hl⟩, by simp [intOf]; omega⟩
          · rw [if_neg h4] at hta
            have h1' : (st == 1) = false := by simpa using h1
            have h3' : (st == 3) = false := by simpa using h3
            have h4' : (st == 4) = false := by simpa using h4
            clear h1 h3 h4
            go_wp2
            exact ⟨⟨k + 1, by omega, by go_num, by rw [HT.out, hta]; exact ⟨o1, sv1, rv1, hm.below hb2, fr.trans (Fr.of_below hm.clean hb2)⟩⟩, by simp [intOf]; omega⟩
    · have hk6 : k = 6 := by omega
      subst hk6
      have hFit := hf.turnTo 6 (Nat.le_refl _)
      go_wp2_with fail
      refine (tick_left hm hq hFit (by omega)).mono ?_
      rintro e w3 ⟨rfl, o2, sv2, rv2, h2, f2⟩
      go_wp2
      exact bodyPost_end (v := .tuple #[]) (by simp [results, Try.results43, go_sem]) rfl ⟨rfl, o2, sv2, rv2, h2, fr.trans f2⟩

set_option maxRecDepth 100000 in
set_option maxHeartbeats 4000000 in
theorem completes_any (h : FMem o q w b m sv rv) (hq : q ≠ 0) (hf : m.Fit B) (hB : B ≤ 48000000) (c : Nat) (i : Int) (hi : 1 ≤ i ∧ i ≤ 6) :
    Calls Try.prog 42 #[.pointer (some ⟨b, 0, none⟩), .int .i64 c, .int .i64 i] w fun r w' => r = .returned (.tuple #[]) ∧ Left o q w b (m.afterFeed c (enc 5 i ⟨#[]⟩ [])) w' := by
  have kb : Hid (∀ w', Calls Try.prog 16 #[.int .i64 5, .int .i64 i, .string ⟨#[]⟩, .int .i64 0] w' fun r w'' => r = .returned (.string (enc 5 i ⟨#[]⟩ [])) ∧ Below w'.heap.size w' w'') := fun w' => bytes_any 5 i ⟨#[]⟩ 0 w' (by omega) (by omega) (by decide) (by omega)
  have hz : (enc 5 i ⟨#[]⟩ []).size ≤ 100 := by rw [enc_size]; decide
  go_enter Try.func42, Try.ntmps42
  go_wp2_with fail
  refine (kb.out _).mono ?_
  rintro e w1 ⟨rfl, hb1⟩
  go_wp2_with fail
  refine (feed_left (h.below hb1) hq hf hB c _ (by omega)).mono ?_
  rintro e w3 ⟨rfl, hl⟩
  go_wp2
  exact bodyPost_end (v := .tuple #[]) (by simp [results, Try.results42, go_sem]) rfl ⟨rfl, Left.from h.clean hb1 hl⟩

end
end Go.Proofs.Ytlafkpaljibonaa
