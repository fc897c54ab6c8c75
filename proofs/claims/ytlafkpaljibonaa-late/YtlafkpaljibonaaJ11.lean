import Derived.Test.YtlafkpaljibonaaJ7
import Derived.Test.YtlafkpaljibonaaJ10
import Derived.Test.YtlafkpaljibonaaJ2
namespace Go.Proofs.Ytlafkpaljibonaa
open Go.RowKit

/-- Nothing is to be started, and nobody is Idle. -/
structure PM.calm (m : PM) : Prop where
  dyn : m.set.dyn = false
  used : m.set.ch ≤ m.usedTo 6
  idle : ∀ k, k < 6 → (m.slot k).st ≠ 2

theorem startTo_full (m : PM) {u : Int} (h : m.set.ch ≤ u) : ∀ k, startTo m u k = (m, u)
  | 0 => rfl
  | k + 1 => by
    have ih := startTo_full m h k
    have e : startTo m u (k + 1) = cond (decide ((startTo m u k).2 < m.set.ch) && ((startTo m u k).1.slot k).st == 0) ({ (startTo m u k).1 with slot := upd (startTo m u k).1.slot k (newSlot 1) }, (startTo m u k).2 + 1) (startTo m u k) := rfl
    rw [e, ih, decide_eq_false (by simp only []; omega)]
    rfl

theorem leaseTo_none (m : PM) (h : ∀ k, k < 6 → (m.slot k).st ≠ 2) : ∀ k, k ≤ 6 → m.leaseTo k = m
  | 0, _ => rfl
  | k + 1, hk => by
    have ih := leaseTo_none m h k (by omega)
    have e : m.leaseTo (k + 1) = (m.leaseTo k).leaseAt k := rfl
    rw [e, ih]
    unfold PM.leaseAt
    have hs : ((m.slot k).st == 2) = false := by simpa using h k (by omega)
    rw [hs]
    cases m.fw <;> rfl

theorem PM.calm.settle {m : PM} (h : m.calm) : m.settle = m := by
  unfold PM.settle PM.leaseWaiting PM.startMissing
  rw [h.dyn, startTo_full m h.used]
  exact leaseTo_none m h.idle 6 (Nat.le_refl _)

theorem PM.setRest_same (m : PM) (k : Nat) (s : ByteArray) (h : (m.con k).rest = s) : m.setRest k s = m := by
  unfold PM.setRest
  have : upd m.con k { m.con k with rest := s } = m.con := by
    funext j
    simp only [upd]
    split
    · rename_i e; subst e; rw [← h]
    · rfl
  rw [this]

theorem left_end (s : ByteArray) : left s s.size = ⟨#[]⟩ := by
  unfold left
  apply ByteArray.ext
  simp

theorem left_zero (s : ByteArray) : left s 0 = s := by
  unfold left
  simp

/-- One whole record comes, and nothing was held back. -/
theorem PM.feed_one (m : PM) (k : Nat) (hr : (m.con k).rest = ⟨#[]⟩) (s : ByteArray) (h2 : rcode true s = 2) (hz : sizeT s = s.size) (hag : m.again k (recT s).2.1 (recT s).1 = false) :
    m.feed k s = ((m.take k (recT s)).settle).setRest k ⟨#[]⟩ := by
  obtain ⟨h8, -⟩ := rcode_two h2
  unfold PM.feed
  rw [hr, nil_ba]
  have e1 : PM.takeAll k s (s.size + 1) m 0 = PM.takeAll k s s.size ((m.take k (recT s)).settle) (0 + s.size) := by
    show (if rcode true (left s 0) = 0 then _ else if rcode true (left s 0) = 1 then _ else _) = _
    rw [left_zero, h2, if_neg (by omega), if_neg (by omega), hag, hz]
    rfl
  obtain ⟨f, hf⟩ : ∃ f, s.size = f + 1 := ⟨s.size - 1, by omega⟩
  have e2 : ∀ (M : PM), PM.takeAll k s s.size M s.size = M.setRest k ⟨#[]⟩ := by
    intro M
    have h0 : rcode true (left s s.size) = 0 := by
      unfold rcode
      rw [if_pos]
      rw [left_size]; omega
    rw [show PM.takeAll k s s.size M s.size = PM.takeAll k s (f + 1) M s.size from by rw [← hf]]
    show (if rcode true (left s s.size) = 0 then M.setRest k (left s s.size) else _) = _
    rw [if_pos h0, left_end]
  rw [e1, Nat.zero_add, e2]

/-- A record's bytes, as a client may send them. -/
theorem enc_rcode (r : Rec) (p : List Int) (hg : Good r p) (hw : wrongB r.1 r.2.2.size = false) : rcode true (enc r.1 r.2.1 r.2.2 p) = 2 ∧ recT (enc r.1 r.2.1 r.2.2 p) = r ∧ sizeT (enc r.1 r.2.1 r.2.2 p) = (enc r.1 r.2.1 r.2.2 p).size := by
  have e : enc r.1 r.2.1 r.2.2 p = strOfNums (encL r p) := rfl
  rw [e]
  have h := step_enc r p [] hg
  rw [List.append_nil] at h
  obtain ⟨h1, h2, h3⟩ := h
  have ht := take8_enc r p []
  rw [List.append_nil] at ht
  obtain ⟨e1, -, e3, -, -⟩ := head_enc r p (encL r p) hg ht
  refine ⟨?_, h2, by rw [h3, strOfNums_size]⟩
  rw [← h1]
  unfold rcode code stopT wrongT
  rw [e1, e3, hw]
  simp

theorem findFrom_last (c i : Int) (x : Req) : ∀ (l : List Req) (k : Nat), (∀ r ∈ l, isKey c i r = false) → isKey c i x = true → findFrom c i (l ++ [x]) k = some (k + l.length)
  | [], k, _, hx => by
    show cond (isKey c i x) (some k) _ = _
    rw [hx]; rfl
  | r :: l, k, h, hx => by
    show cond (isKey c i r) (some k) (findFrom c i (l ++ [x]) (k + 1)) = _
    rw [h r (by simp), cond_false, findFrom_last c i x l (k + 1) (fun y hy => h y (by simp [hy])) hx]
    simp only [List.length_cons]
    congr 1
    omega

theorem findFrom_nobody (c i : Int) : ∀ (l : List Req) (k : Nat), (∀ r ∈ l, isKey c i r = false) → findFrom c i l k = none
  | [], _, _ => rfl
  | r :: l, k, h => by
    show cond (isKey c i r) (some k) (findFrom c i l (k + 1)) = _
    rw [h r (by simp), cond_false, findFrom_nobody c i l (k + 1) (fun y hy => h y (by simp [hy]))]

/-- The same foreman with other requests. -/
def PM.withReq (m : PM) (l : List Req) : PM := { m with req := l }

theorem PM.calm.withReq {m : PM} (h : m.calm) (l : List Req) : (m.withReq l).calm :=
  ⟨h.dyn, h.used, h.idle⟩

section
variable {m : PM} {W : List Req} {c : Nat} {i : Int}

theorem feedBegin (hc : m.calm) (hr : (m.con c).rest = ⟨#[]⟩) (hno : ∀ r ∈ W, isKey c i r = false) (hi : 1 ≤ i ∧ i ≤ 65535) (hkeys : (W.filter fun r => r.conn == (c : Int)).length < 4) :
    (m.withReq W).feed c (enc 1 i ⟨#[1]⟩ []) = m.withReq (W ++ [newReq c i]) := by
  obtain ⟨h1, h2, h3⟩ := enc_rcode (1, i, ⟨#[1]⟩) [] ⟨by simp [allowedB, isKindB, ByteArray.size]; omega, by simp⟩ rfl
  have h1 : rcode true (enc 1 i ⟨#[1]⟩ []) = 2 := h1
  have h2 : recT (enc 1 i ⟨#[1]⟩ []) = (1, i, ⟨#[1]⟩) := h2
  have h3 : sizeT (enc 1 i ⟨#[1]⟩ []) = (enc 1 i ⟨#[1]⟩ []).size := h3
  have hf : (m.withReq W).find c i = none := findFrom_nobody c i W 0 hno
  have hag : (m.withReq W).again c (recT (enc 1 i ⟨#[1]⟩ [])).2.1 (recT (enc 1 i ⟨#[1]⟩ [])).1 = false := by
    rw [h2]
    unfold PM.again
    rw [hf]; rfl
  rw [PM.feed_one (m.withReq W) c hr _ h1 h3 hag, h2]
  have ht : (m.withReq W).take c (1, i, ⟨#[1]⟩) = m.withReq (W ++ [newReq c i]) := by
    unfold PM.take
    rw [if_pos rfl]
    unfold PM.begin_
    have e1 : ((⟨#[1]⟩ : ByteArray).toList == [1]) = true := by rw [ByteArray.toList_eq]; rfl
    have e2 : decide (((m.withReq W).keysOf c).length ≥ 4) = false := by
      rw [decide_eq_false]
      unfold PM.keysOf
      rw [List.length_map]
      show ¬ (W.filter fun r => r.conn == (c : Int)).length ≥ 4
      omega
    simp only []
    rw [e1, e2]
    rfl
  rw [ht, (hc.withReq _).settle]
  exact PM.setRest_same _ _ _ hr

theorem feedIn (hc : m.calm) (hr : (m.con c).rest = ⟨#[]⟩) (hno : ∀ r ∈ W, isKey c i r = false) (hi : 1 ≤ i ∧ i ≤ 65535) (b t : ByteArray) (ht0 : 0 < t.size) (ht : t.size ≤ 200) (hb : b.size + t.size ≤ 500) (p : List Int) (hp : p.length ≤ 7) :
    (m.withReq (W ++ [⟨c, i, 0, b⟩])).feed c (enc 5 i t p) = m.withReq (W ++ [⟨c, i, 0, b ++ t⟩]) := by
  obtain ⟨h1, h2, h3⟩ := enc_rcode (5, i, t) p ⟨by simp [allowedB, isKindB]; omega, hp⟩ rfl
  have h1 : rcode true (enc 5 i t p) = 2 := h1
  have h2 : recT (enc 5 i t p) = (5, i, t) := h2
  have h3 : sizeT (enc 5 i t p) = (enc 5 i t p).size := h3
  have hf : (m.withReq (W ++ [⟨c, i, 0, b⟩])).find c i = some W.length := by
    have := findFrom_last c i ⟨c, i, 0, b⟩ W 0 hno (by simp [isKey])
    rw [Nat.zero_add] at this
    exact this
  have hag : (m.withReq (W ++ [⟨c, i, 0, b⟩])).again c (recT (enc 5 i t p)).2.1 (recT (enc 5 i t p)).1 = false := by
    rw [h2]
    unfold PM.again
    rw [hf]; rfl
  rw [PM.feed_one (m.withReq (W ++ [(⟨c, i, 0, b⟩ : Req)])) c hr _ h1 h3 hag, h2]
  have htk : (m.withReq (W ++ [⟨c, i, 0, b⟩])).take c (5, i, t) = m.withReq (W ++ [⟨c, i, 0, b ++ t⟩]) := by
    unfold PM.take
    rw [if_neg (by simp), if_pos rfl]
    simp only [PM.in_, hf]
    have hg : (m.withReq (W ++ [⟨c, i, 0, b⟩])).req.getD W.length noReq = ⟨c, i, 0, b⟩ := by simp [PM.withReq, List.getD]
    rw [hg]
    unfold PM.inAt
    have e1 : (t.toList == []) = false := by rw [ba_nil_iff]; exact decide_eq_false (by omega)
    have e2 : decide (500 < (b ++ t).size) = false := by rw [decide_eq_false]; rw [ByteArray.size_append]; omega
    simp only []
    rw [e1, e2]
    simp [PM.withReq]
  rw [htk, (hc.withReq _).settle]
  exact PM.setRest_same _ _ _ hr

theorem feedEnd (hc : m.calm) (hr : (m.con c).rest = ⟨#[]⟩) (hno : ∀ r ∈ W, isKey c i r = false) (hi : 1 ≤ i ∧ i ≤ 65535) (b : ByteArray) (hroom : ((W.filter fun r => r.stage == 1).length : Int) < m.set.bl) :
    (m.withReq (W ++ [⟨c, i, 0, b⟩])).feed c (enc 5 i ⟨#[]⟩ []) = m.withReq (W ++ [⟨c, i, 1, b⟩]) := by
  obtain ⟨h1, h2, h3⟩ := enc_rcode (5, i, ⟨#[]⟩) [] ⟨by simp [allowedB, isKindB, ByteArray.size]; omega, by simp⟩ rfl
  have h1 : rcode true (enc 5 i ⟨#[]⟩ []) = 2 := h1
  have h2 : recT (enc 5 i ⟨#[]⟩ []) = (5, i, ⟨#[]⟩) := h2
  have h3 : sizeT (enc 5 i ⟨#[]⟩ []) = (enc 5 i ⟨#[]⟩ []).size := h3
  have hf : (m.withReq (W ++ [⟨c, i, 0, b⟩])).find c i = some W.length := by
    have := findFrom_last c i ⟨c, i, 0, b⟩ W 0 hno (by simp [isKey])
    rw [Nat.zero_add] at this
    exact this
  have hag : (m.withReq (W ++ [⟨c, i, 0, b⟩])).again c (recT (enc 5 i ⟨#[]⟩ [])).2.1 (recT (enc 5 i ⟨#[]⟩ [])).1 = false := by
    rw [h2]
    unfold PM.again
    rw [hf]; rfl
  rw [PM.feed_one (m.withReq (W ++ [(⟨c, i, 0, b⟩ : Req)])) c hr _ h1 h3 hag, h2]
  have htk : (m.withReq (W ++ [⟨c, i, 0, b⟩])).take c (5, i, ⟨#[]⟩) = m.withReq (W ++ [⟨c, i, 1, b⟩]) := by
    unfold PM.take
    rw [if_neg (by simp), if_pos rfl]
    simp only [PM.in_, hf]
    have hg : (m.withReq (W ++ [⟨c, i, 0, b⟩])).req.getD W.length noReq = ⟨c, i, 0, b⟩ := by simp [PM.withReq, List.getD]
    rw [hg]
    unfold PM.inAt PM.enqueue
    have e1 : ((⟨#[]⟩ : ByteArray).toList == []) = true := by rw [ba_nil_iff]; rfl
    have hrm : (m.withReq (W ++ [⟨c, i, 0, b⟩])).room = true := by
      unfold PM.room
      have hw : (m.withReq (W ++ [⟨c, i, 0, b⟩])).waits.length = (W.filter fun r => r.stage == 1).length := by
        unfold PM.waits PM.withReq
        simp [List.filter_append]
      rw [hw]
      have : decide (((W.filter fun r => r.stage == 1).length : Int) < (m.withReq (W ++ [⟨c, i, 0, b⟩])).set.bl) = true := decide_eq_true hroom
      rw [this, Bool.or_true]
    have hwo : withoutL (m.withReq (W ++ [⟨c, i, 0, b⟩])).req c i = W := by
      unfold withoutL PM.withReq
      rw [List.filter_append, List.filter_eq_self.2 (by intro r hr'; simp [hno r hr'])]
      simp [isKey]
    simp only []
    rw [e1, hrm, hwo]
    rfl
  rw [htk, (hc.withReq _).settle]
  exact PM.setRest_same _ _ _ hr

end
end Go.Proofs.Ytlafkpaljibonaa

namespace Go.Proofs.Ytlafkpaljibonaa
open Go.RowKit

theorem extract_split (t : ByteArray) (k : Nat) (hk : k ≤ t.size) : t.extract 0 k ++ t.extract k t.size = t := by
  apply ByteArray.ext
  simp only [ByteArray.data_append, ByteArray.data_extract]
  have : t.size = t.data.size := rfl
  rw [this] at hk ⊢
  rw [Array.extract_append_extract, Nat.zero_min, Nat.max_eq_right hk, Array.extract_size]

/-- What the requests and what was sent may be, where a request is fed. -/
structure PM.tame (m : PM) : Prop where
  calm : m.calm
  sent : ∀ k, k < 4 → (m.con k).sent.length ≤ 1000000
  rest : ∀ k, k < 4 → (m.con k).rest = ⟨#[]⟩
  op : ∀ k, k < 4 → (m.con k).op = true

section
variable {o : Nat → Tag} {w : World} {b : Nat} {m : PM} {sv : Nat → Value} {rv : Value} {W : List Req} {c : Nat} {i : Int}

theorem feed_to (ht : m.tame) (hc : c < 4) (l l' : List Req) (hl : l.length ≤ 30) (hb : ∀ r ∈ l, r.body.size ≤ 1000) (s : ByteArray) (hs : s.size ≤ 1000) (he : (m.withReq l).feed c s = m.withReq l')
    (h : FMem o 1 w b (m.withReq l) sv rv) :
    Calls Try.prog 25 #[.pointer (some ⟨b, 0, none⟩), .int .i64 (c : Nat), .string s] w fun r w' => r = .returned (.int .i64 0) ∧ ∃ o' sv' rv', FMem o' 1 w' b (m.withReq l') sv' rv' ∧ Fr 1 o w o' w' := by
  have hchk : (m.withReq l).chk (c : Int) = 0 := by
    unfold PM.chk
    have e : isC (c : Int) = true := by simp [isC]; omega
    rw [e, Int.toNat_natCast, show ((m.withReq l).con c).op = true from ht.op c hc]
    rfl
  have hf := feed_any h (by omega) (c : Int) s (by omega) (fun k hk => by rw [show ((m.withReq l).con k).rest = (m.con k).rest from rfl, ht.rest k hk]; exact Nat.zero_le _) (R := 30) (S := 1000000) ⟨hl, ht.sent, hb⟩ (by omega) (by omega)
  have e2 : (m.withReq l).afterFeed (c : Int) s = m.withReq l' := by
    unfold PM.afterFeed
    rw [hchk, Int.toNat_natCast, he]
    rfl
  rw [hchk, e2] at hf
  exact hf

set_option maxRecDepth 100000 in
set_option maxHeartbeats 4000000 in
theorem fed_any (h : FMem o 1 w b (m.withReq W) sv rv) (ht : m.tame) (hc : c < 4) (hno : ∀ r ∈ W, isKey c i r = false) (hi : 1 ≤ i ∧ i ≤ 65535) (hW : W.length ≤ 20) (hWb : ∀ r ∈ W, r.body.size ≤ 1000)
    (hkeys : (W.filter fun r => r.conn == (c : Int)).length < 4) (hroom : ((W.filter fun r => r.stage == 1).length : Int) < m.set.bl) (body : ByteArray) (hbody : body.size ≤ 500) (n : Nat) (hn0 : 1 ≤ n) (hn : n ≤ 200) :
    Calls Try.prog 29 #[.pointer (some ⟨b, 0, none⟩), .int .i64 (c : Nat), .int .i64 i, .string body, .int .i64 (n : Nat)] w fun r w' => r = .returned (.bool true) ∧ ∃ o' sv' rv', FMem o' 1 w' b (m.withReq (W ++ [⟨c, i, 1, body⟩])) sv' rv' ∧ Fr 1 o w o' w' := by
  have hr := ht.rest c hc
  have kb1 : Hid (∀ w, Calls Try.prog 16 #[.int .i64 1, .int .i64 i, .string ⟨#[1]⟩, .int .i64 0] w fun r w' => r = .returned (.string (enc 1 i ⟨#[1]⟩ [])) ∧ Below w.heap.size w w') := fun w => by
    have := bytes_any 1 i ⟨#[1]⟩ 0 w (by omega) hi (by decide) (by omega)
    exact this
  have kb3 : Hid (∀ w, Calls Try.prog 16 #[.int .i64 5, .int .i64 i, .string ⟨#[]⟩, .int .i64 0] w fun r w' => r = .returned (.string (enc 5 i ⟨#[]⟩ [])) ∧ Below w.heap.size w w') := fun w => by
    have := bytes_any 5 i ⟨#[]⟩ 0 w (by omega) hi (by decide) (by omega)
    exact this
  have kb2 : Hid (∀ w (t : ByteArray) (p : Nat), t.size ≤ 200 → p ≤ 7 → Calls Try.prog 16 #[.int .i64 5, .int .i64 i, .string t, .int .i64 (p : Nat)] w fun r w' => r = .returned (.string (enc 5 i t (padL p))) ∧ Below w.heap.size w w') := fun w t p h1 h2 => bytes_any 5 i t p w (by omega) hi (by omega) h2
  have kf1 : Hid (∀ (o : Nat → Tag) (w : World) (sv : Nat → Value) (rv : Value), FMem o 1 w b (m.withReq W) sv rv → Calls Try.prog 25 #[.pointer (some ⟨b, 0, none⟩), .int .i64 (c : Nat), .string (enc 1 i ⟨#[1]⟩ [])] w fun r w' => r = .returned (.int .i64 0) ∧ ∃ o' sv' rv', FMem o' 1 w' b (m.withReq (W ++ [newReq c i])) sv' rv' ∧ Fr 1 o w o' w') := fun o w sv rv h =>
    feed_to ht hc W _ (by omega) hWb _ (by rw [enc_size]; decide) (feedBegin ht.calm hr hno hi hkeys) h
  have hbx : ∀ (x : Req), x.body.size ≤ 1000 → ∀ r ∈ W ++ [x], r.body.size ≤ 1000 := fun x hx r hr' => by
    rw [List.mem_append, List.mem_singleton] at hr'
    rcases hr' with e | e
    · exact hWb r e
    · rw [e]; exact hx
  have kf2 : Hid (∀ (o : Nat → Tag) (w : World) (sv : Nat → Value) (rv : Value) (D t : ByteArray) (p : Nat), 0 < t.size → t.size ≤ 200 → D.size + t.size ≤ 500 → p ≤ 7 → FMem o 1 w b (m.withReq (W ++ [⟨c, i, 0, D⟩])) sv rv → Calls Try.prog 25 #[.pointer (some ⟨b, 0, none⟩), .int .i64 (c : Nat), .string (enc 5 i t (padL p))] w fun r w' => r = .returned (.int .i64 0) ∧ ∃ o' sv' rv', FMem o' 1 w' b (m.withReq (W ++ [⟨c, i, 0, D ++ t⟩])) sv' rv' ∧ Fr 1 o w o' w') := fun o w sv rv D t p h1 h2 h3 h4 h =>
    feed_to ht hc _ _ (by simp; omega) (hbx _ (by show D.size ≤ 1000; omega)) _ (by rw [enc_size, padL_length]; omega) (feedIn ht.calm hr hno hi D t h1 h2 h3 (padL p) (by rw [padL_length]; exact h4)) h
  have kf3 : Hid (∀ (o : Nat → Tag) (w : World) (sv : Nat → Value) (rv : Value), FMem o 1 w b (m.withReq (W ++ [⟨c, i, 0, body⟩])) sv rv → Calls Try.prog 25 #[.pointer (some ⟨b, 0, none⟩), .int .i64 (c : Nat), .string (enc 5 i ⟨#[]⟩ [])] w fun r w' => r = .returned (.int .i64 0) ∧ ∃ o' sv' rv', FMem o' 1 w' b (m.withReq (W ++ [⟨c, i, 1, body⟩])) sv' rv' ∧ Fr 1 o w o' w') := fun o w sv rv h =>
    feed_to ht hc _ _ (by simp; omega) (hbx _ (by show body.size ≤ 1000; omega)) _ (by rw [enc_size]; decide) (feedEnd ht.calm hr hno hi body hroom) h
  clear ht hr hno hkeys hroom hbx hWb hW
  go_enter Try.func29, Try.ntmps29
  go_wp2_with fail
  refine (kb1.out _).mono ?_
  rintro e w1 ⟨rfl, hb1⟩
  have h1 := h.below hb1
  go_wp2_with fail
  refine (kf1.out _ _ _ _ h1).mono ?_
  rintro e w2 ⟨rfl, o2, sv2, rv2, h2, fr2⟩
  have frA := (Fr.of_below (q := 1) h.clean hb1).trans fr2
  have h2' : FMem o2 1 w2 b (m.withReq (W ++ [⟨c, i, 0, ByteArray.empty⟩])) sv2 rv2 := h2
  clear h h1 h2 fr2 hb1 kb1 kf1
  go_wp2_with fail
  go_loopg [3, 11, 12, 13] body.size (fun g t _ e _ w' => ∃ (T D : ByteArray) (o' : Nat → Tag) (sv' : Nat → Value) (rv' : Value), t = .string T ∧ e = .int .i64 0 ∧ T.size ≤ g ∧ D ++ T = body ∧ FMem o' 1 w' b (m.withReq (W ++ [⟨c, i, 0, D⟩])) sv' rv' ∧ Fr 1 o w o' w')
  case atStart => exact ⟨body, ByteArray.empty, o2, sv2, rv2, rfl, rfl, Nat.le_refl _, by simp, h2', frA⟩
  case round =>
    obtain ⟨T, D, o1, sv1, rv1, rfl, rfl, hTg, hDT, hm, hfr⟩ := hrel
    clear h2' frA
    have HDT : Hid _ := hDT
    have hsz : D.size + T.size = body.size := by rw [← hDT, ByteArray.size_append]
    clear hDT
    by_cases hT : T.size = 0
    · have hDb : D = body := by
        have : T = ByteArray.empty := by
          apply ByteArray.ext
          exact Array.eq_empty_of_size_eq_zero hT
        have e := HDT.out
        rw [this] at e
        simpa using e
      subst hDb
      have hn0' : ¬ ((0 : Int) < T.size) := by omega
      clear hT HDT kf2 kb2
      go_wp2_with fail
      refine (kb3.out _).mono ?_
      rintro e w3 ⟨rfl, hb3⟩
      have h3 := hm.below hb3
      go_wp2_with fail
      refine (kf3.out _ _ _ _ h3).mono ?_
      rintro e w4 ⟨rfl, o4, sv4, rv4, h4, fr4⟩
      go_wp2
      go_ret
      exact ⟨by simp, o4, sv4, rv4, h4, (hfr.below hb3).trans fr4⟩
    · have hTp : (0 : Int) < T.size := by omega
      obtain ⟨g', hg'⟩ : ∃ g', gk = g' + 1 := ⟨gk - 1, by omega⟩
      by_cases hbig : T.size < n
      · have hbI : (T.size : Int) < n := by omega
        have e1 : T.extract 0 T.size = T := by simp
        have e2 : T.extract T.size T.size = ByteArray.empty := by simp
        have hrem : ((T.size : Nat) : Int).tmod 3 = ((T.size % 3 : Nat) : Int) := by rw [Int.tmod_eq_emod_of_nonneg (by omega)]; omega
        have hnew : Hid ((D ++ T) ++ ByteArray.empty = body) := by
          show _ = _
          rw [← HDT.out]
          simp
        have kbk : Hid (∀ w, Calls Try.prog 16 #[.int .i64 5, .int .i64 i, .string T, .int .i64 ((T.size % 3 : Nat) : Int)] w fun r w' => r = .returned (.string (enc 5 i T (padL (T.size % 3)))) ∧ Below w.heap.size w w') := fun w => kb2.out w _ _ (by omega) (by omega)
        have kfk : Hid (∀ (o : Nat → Tag) (w : World) (sv : Nat → Value) (rv : Value), FMem o 1 w b (m.withReq (W ++ [⟨c, i, 0, D⟩])) sv rv → Calls Try.prog 25 #[.pointer (some ⟨b, 0, none⟩), .int .i64 (c : Nat), .string (enc 5 i T (padL (T.size % 3)))] w fun r w' => r = .returned (.int .i64 0) ∧ ∃ o' sv' rv', FMem o' 1 w' b (m.withReq (W ++ [⟨c, i, 0, D ++ T⟩])) sv' rv' ∧ Fr 1 o w o' w') := fun o w sv rv h => kf2.out o w sv rv D _ _ (by omega) (by omega) (by omega) (by omega) h
        clear kb2 kf2 kb3 kf3 HDT
        go_wp2_with fail
        refine (kbk.out _).mono ?_
        rintro e w3 ⟨rfl, hb3⟩
        have h3 := hm.below hb3
        go_wp2_with fail
        refine (kfk.out _ _ _ _ h3).mono ?_
        rintro e w4 ⟨rfl, o4, sv4, rv4, h4, fr4⟩
        go_wp2
        go_roundg g'
        case measure => omega
        case rel => exact ⟨ByteArray.empty, D ++ T, o4, sv4, rv4, rfl, rfl, Nat.zero_le _, hnew.out, h4, (hfr.below hb3).trans fr4⟩
      · have hbI : ¬ ((T.size : Int) < n) := by omega
        have hbI2 : (n : Int) ≤ T.size := by omega
        have hxs : (T.extract 0 n).size = n := by rw [ByteArray.size_extract]; omega
        have hxt : (T.extract n T.size).size = T.size - n := by rw [ByteArray.size_extract]; omega
        have hrem : ((n : Nat) : Int).tmod 3 = ((n % 3 : Nat) : Int) := by rw [Int.tmod_eq_emod_of_nonneg (by omega)]; omega
        have hnew : Hid ((D ++ (T.extract 0 n)) ++ (T.extract n T.size) = body) := by
          show _ = _
          rw [← HDT.out, ByteArray.append_assoc, extract_split T n (by omega)]
        have kbk : Hid (∀ w, Calls Try.prog 16 #[.int .i64 5, .int .i64 i, .string (T.extract 0 n), .int .i64 ((n % 3 : Nat) : Int)] w fun r w' => r = .returned (.string (enc 5 i (T.extract 0 n) (padL (n % 3)))) ∧ Below w.heap.size w w') := fun w => kb2.out w _ _ (by omega) (by omega)
        have kfk : Hid (∀ (o : Nat → Tag) (w : World) (sv : Nat → Value) (rv : Value), FMem o 1 w b (m.withReq (W ++ [⟨c, i, 0, D⟩])) sv rv → Calls Try.prog 25 #[.pointer (some ⟨b, 0, none⟩), .int .i64 (c : Nat), .string (enc 5 i (T.extract 0 n) (padL (n % 3)))] w fun r w' => r = .returned (.int .i64 0) ∧ ∃ o' sv' rv', FMem o' 1 w' b (m.withReq (W ++ [⟨c, i, 0, D ++ (T.extract 0 n)⟩])) sv' rv' ∧ Fr 1 o w o' w') := fun o w sv rv h => kf2.out o w sv rv D _ _ (by omega) (by omega) (by omega) (by omega) h
        clear kb2 kf2 kb3 kf3 HDT
        go_wp2_with fail
        refine (kbk.out _).mono ?_
        rintro e w3 ⟨rfl, hb3⟩
        have h3 := hm.below hb3
        go_wp2_with fail
        refine (kfk.out _ _ _ _ h3).mono ?_
        rintro e w4 ⟨rfl, o4, sv4, rv4, h4, fr4⟩
        go_wp2
        go_roundg g'
        case measure => omega
        case rel => exact ⟨(T.extract n T.size), D ++ (T.extract 0 n), o4, sv4, rv4, rfl, rfl, by omega, hnew.out, h4, (hfr.below hb3).trans fr4⟩
end
end Go.Proofs.Ytlafkpaljibonaa

namespace Go.Proofs.Ytlafkpaljibonaa
open Go.RowKit

/-- One worker: slot 0 is what is told, the others are Empty. -/
def oneSlot (s : PSlot) : Nat → PSlot := fun k => if k = 0 then s else newSlot 0
def mkW (c : Cfg) (con : Nat → PConn) (l : List Req) (s : PSlot) : PM := ⟨c, 0, con, l, oneSlot s⟩

theorem oneSlot_upd (s t : PSlot) : upd (oneSlot s) 0 t = oneSlot t := by
  funext k
  simp only [upd, oneSlot]
  split <;> simp_all

section
variable {c : Cfg} {con : Nat → PConn} {l : List Req} {s : PSlot}

theorem mkW_used (hs : s.st ≠ 0) : (mkW c con l s).usedTo 6 = 1 := by
  have h0 : (((mkW c con l s).slot 0).st == 0) = false := by simpa [mkW, oneSlot] using hs
  simp only [PM.usedTo, h0]
  simp [mkW, oneSlot, newSlot]

theorem mkW_calm (hd : c.dyn = false) (hc : c.ch = 1) (h0 : s.st ≠ 0) (h2 : s.st ≠ 2) : (mkW c con l s).calm := by
  refine ⟨hd, by rw [mkW_used h0]; exact Int.le_of_eq hc, ?_⟩
  intro k _
  simp only [mkW, oneSlot]
  split
  · exact h2
  · simp [newSlot]

/-- An Empty slot is started anew. -/
theorem settle_empty (hd : c.dyn = false) (hc : c.ch = 1) (h0 : s.st = 0) : (mkW c con l s).settle = mkW c con l (newSlot 1) := by
  have hu : (mkW c con l s).usedTo 6 = 0 := by
    simp [PM.usedTo, mkW, oneSlot, newSlot, h0]
  have h1 : startTo (mkW c con l s) 0 1 = (mkW c con l (newSlot 1), 1) := by
    have e : startTo (mkW c con l s) 0 1 = cond (decide ((0 : Int) < (mkW c con l s).set.ch) && ((mkW c con l s).slot 0).st == 0) ({ mkW c con l s with slot := upd (mkW c con l s).slot 0 (newSlot 1) }, (0 : Int) + 1) (mkW c con l s, 0) := rfl
    rw [e]
    have a1 : decide ((0 : Int) < (mkW c con l s).set.ch) = true := by rw [decide_eq_true]; show 0 < c.ch; omega
    have a2 : (((mkW c con l s).slot 0).st == 0) = true := by simp [mkW, oneSlot, h0]
    rw [a1, a2]
    simp only [Bool.and_self, cond_true]
    show (_, _) = (_, _)
    rw [show (mkW c con l s).slot = oneSlot s from rfl, oneSlot_upd]
    rfl
  have hk : ∀ k, 1 ≤ k → startTo (mkW c con l s) 0 k = (mkW c con l (newSlot 1), 1) := by
    intro k hk
    induction k with
    | zero => omega
    | succ k ih =>
      by_cases e : k = 0
      · subst e; exact h1
      · have e2 : startTo (mkW c con l s) 0 (k + 1) = cond (decide ((startTo (mkW c con l s) 0 k).2 < (mkW c con l s).set.ch) && ((startTo (mkW c con l s) 0 k).1.slot k).st == 0) ({ (startTo (mkW c con l s) 0 k).1 with slot := upd (startTo (mkW c con l s) 0 k).1.slot k (newSlot 1) }, (startTo (mkW c con l s) 0 k).2 + 1) (startTo (mkW c con l s) 0 k) := rfl
        rw [e2, ih (by omega)]
        have a1 : decide ((1 : Int) < (mkW c con l s).set.ch) = false := by rw [decide_eq_false]; show ¬ 1 < c.ch; omega
        simp only []
        rw [a1]
        rfl
  unfold PM.settle PM.startMissing PM.leaseWaiting
  rw [show (mkW c con l s).set.dyn = false from hd, hu]
  simp only [cond_false]
  rw [hk 6 (by omega)]
  refine leaseTo_none _ ?_ 6 (Nat.le_refl _)
  intro k _
  simp only [mkW, oneSlot]
  split <;> simp [newSlot]

/-- An Idle slot takes the first that waits. -/
theorem settle_lease (hd : c.dyn = false) (hc : c.ch = 1) (h2 : s.st = 2) (r : Req) (hr : r.stage = 1) :
    (mkW c con (r :: l) s).settle = mkW c con ({ r with stage := 2, body := ⟨#[]⟩ } :: l) ⟨3, s.old, wrap64 (s.served + 1), 0, r.conn, r.id, r.body⟩ := by
  have hu := mkW_used (c := c) (con := con) (l := r :: l) (s := s) (by omega)
  have hfw : (mkW c con (r :: l) s).fw = some 0 := by
    show cond (r.stage == 1) (some 0) _ = _
    rw [hr]; rfl
  have h1 : (mkW c con (r :: l) s).leaseTo 1 = mkW c con ({ r with stage := 2, body := ⟨#[]⟩ } :: l) ⟨3, s.old, wrap64 (s.served + 1), 0, r.conn, r.id, r.body⟩ := by
    show (mkW c con (r :: l) s).leaseAt 0 = _
    unfold PM.leaseAt
    rw [hfw]
    simp only []
    have a2 : (((mkW c con (r :: l) s).slot 0).st == 2) = true := by simp [mkW, oneSlot, h2]
    rw [a2]
    simp only [cond_true, PM.lease]
    have e1 : (mkW c con (r :: l) s).slot = oneSlot s := rfl
    have e2 : (mkW c con (r :: l) s).req = r :: l := rfl
    rw [e1, e2, oneSlot_upd]
    rfl
  have hk : ∀ k, 1 ≤ k → k ≤ 6 → (mkW c con (r :: l) s).leaseTo k = mkW c con ({ r with stage := 2, body := ⟨#[]⟩ } :: l) ⟨3, s.old, wrap64 (s.served + 1), 0, r.conn, r.id, r.body⟩ := by
    intro k hk hk6
    induction k with
    | zero => omega
    | succ k ih =>
      by_cases e : k = 0
      · subst e; exact h1
      · show ((mkW c con (r :: l) s).leaseTo k).leaseAt k = _
        rw [ih (by omega) (by omega)]
        unfold PM.leaseAt
        have a2 : (((mkW c con ({ r with stage := 2, body := ⟨#[]⟩ } :: l) ⟨3, s.old, wrap64 (s.served + 1), 0, r.conn, r.id, r.body⟩).slot k).st == 2) = false := by simp [mkW, oneSlot, e, newSlot]
        rw [a2]
        cases (mkW c con ({ r with stage := 2, body := ⟨#[]⟩ } :: l) ⟨3, s.old, wrap64 (s.served + 1), 0, r.conn, r.id, r.body⟩).fw <;> rfl
  unfold PM.settle PM.startMissing PM.leaseWaiting
  rw [show (mkW c con (r :: l) s).set.dyn = false from hd]
  simp only [cond_false]
  rw [hu, startTo_full (mkW c con (r :: l) s) (by show c.ch ≤ 1; omega)]
  exact hk 6 (by omega) (by omega)

/-- An Idle slot stays so where nothing waits. -/
theorem settle_idle (hd : c.dyn = false) (hc : c.ch = 1) (h2 : s.st = 2) : (mkW c con [] s).settle = mkW c con [] s := by
  have hu := mkW_used (c := c) (con := con) (l := []) (s := s) (by omega)
  have hk : ∀ k, k ≤ 6 → (mkW c con [] s).leaseTo k = mkW c con [] s := by
    intro k hk
    induction k with
    | zero => rfl
    | succ k ih =>
      show ((mkW c con [] s).leaseTo k).leaseAt k = _
      rw [ih (by omega)]
      rfl
  unfold PM.settle PM.startMissing PM.leaseWaiting
  rw [show (mkW c con [] s).set.dyn = false from hd]
  simp only [cond_false]
  rw [hu, startTo_full (mkW c con [] s) (by show c.ch ≤ 1; omega)]
  exact hk 6 (by omega)

end
end Go.Proofs.Ytlafkpaljibonaa

namespace Go.Proofs.Ytlafkpaljibonaa
open Go.RowKit

/-- One worker, at the time T. -/
def mkT (c : Cfg) (T : Int) (con : Nat → PConn) (l : List Req) (s : PSlot) : PM := ⟨c, T, con, l, oneSlot s⟩
def lateC (t : Int) : Cfg := ⟨1, false, 0, 0, 0, t, 1⟩
def con0 : Nat → PConn := fun _ => ⟨false, ⟨#[]⟩, []⟩
def con2 : Nat → PConn := upd con0 2 ⟨true, ⟨#[]⟩, []⟩
def conL : Nat → PConn := upd con2 2 ⟨true, ⟨#[]⟩, nums (encB 3 5 (strOfNums [6]))⟩
def busyS (S : Int) : PSlot := ⟨3, false, 1, S, 2, 5, ⟨#[120]⟩⟩
def dyingS : PSlot := ⟨4, false, 1, 0, -1, 0, ⟨#[]⟩⟩

theorem wrap_small {x : Int} (h0 : -1000000 ≤ x) (h1 : x ≤ 1000000) : wrap64 x = x := by
  rw [← IntWalk.i64_left]; exact wrap_ok (by omega) (by omega)

theorem calmT {c : Cfg} {T : Int} {con : Nat → PConn} {l : List Req} {s : PSlot} (hd : c.dyn = false) (hc : c.ch = 1) (h0 : s.st ≠ 0) (h2 : s.st ≠ 2) : (mkT c T con l s).settle = mkT c T con l s := by
  refine PM.calm.settle ⟨hd, ?_, ?_⟩
  · have : (mkT c T con l s).usedTo 6 = 1 := by
      have h0' : (((mkT c T con l s).slot 0).st == 0) = false := by simpa [mkT, oneSlot] using h0
      simp only [PM.usedTo, h0']
      simp [mkT, oneSlot, newSlot]
    rw [this]; exact Int.le_of_eq hc
  · intro k _
    simp only [mkT, oneSlot]
    split
    · exact h2
    · simp [newSlot]

theorem lateTo_none {m : PM} (h : ∀ k, k < 6 → (m.slot k).st ≠ 3) : ∀ k, k ≤ 6 → m.lateTo k = m
  | 0, _ => rfl
  | k + 1, hk => by
    have ih := lateTo_none h k (by omega)
    have e : m.lateTo (k + 1) = cond ((m.lateTo k).lateAt k) (((m.lateTo k).endKeyOf k 6).kill k) (m.lateTo k) := rfl
    rw [e, ih]
    have : m.lateAt k = false := by
      unfold PM.lateAt
      rw [show ((m.slot k).st == 3) = false from by simpa using h k (by omega)]
      rfl
    rw [this]; rfl

theorem late_none {m : PM} (h : ∀ k, k < 6 → (m.slot k).st ≠ 3) : m.late = m := by
  unfold PM.late
  cases decide (0 < m.set.tmo)
  · rfl
  · exact lateTo_none h 6 (Nat.le_refl _)

/-- A Tick while the worker starts, or dies. -/
theorem tick_calm {c : Cfg} {T : Int} {con : Nat → PConn} {l : List Req} {s : PSlot} (hd : c.dyn = false) (hc : c.ch = 1) (h0 : s.st ≠ 0) (h2 : s.st ≠ 2) (h3 : s.st ≠ 3) : (mkT c T con l s).tick = mkT c (wrap64 (T + 1)) con l s := by
  have e : (mkT c T con l s).ticked = mkT c (wrap64 (T + 1)) con l s := rfl
  have hl : (mkT c (wrap64 (T + 1)) con l s).late = mkT c (wrap64 (T + 1)) con l s := late_none fun k _ => by
    simp only [mkT, oneSlot]
    split
    · exact h3
    · simp [newSlot]
  unfold PM.tick PM.tickS
  rw [e, hl, show (mkT c T con l s).set.dyn = false from hd, cond_false]
  exact calmT hd hc h0 h2

theorem new_late (t : Int) : newPM (lateC t) = mkT (lateC t) 0 con0 [] (newSlot 1) := by
  have e : rawPM (lateC t) = mkW (lateC t) con0 [] (newSlot 0) := by
    unfold rawPM mkW
    congr 1
    funext k
    simp [oneSlot]
  unfold newPM
  rw [e]
  exact settle_empty rfl rfl rfl

theorem leaseTo_nofw {m : PM} (h : m.fw = none) : ∀ k, m.leaseTo k = m
  | 0 => rfl
  | k + 1 => by
    have ih := leaseTo_nofw h k
    show (m.leaseTo k).leaseAt k = m
    rw [ih]
    unfold PM.leaseAt
    rw [h]

theorem usedT {c : Cfg} {T : Int} {con : Nat → PConn} {l : List Req} {s : PSlot} (h0 : s.st ≠ 0) : (mkT c T con l s).usedTo 6 = 1 := by
  have h0' : (((mkT c T con l s).slot 0).st == 0) = false := by simpa [mkT, oneSlot] using h0
  simp only [PM.usedTo, h0']
  simp [mkT, oneSlot, newSlot]

theorem startT {c : Cfg} {T : Int} {con : Nat → PConn} {l : List Req} {s : PSlot} (hc : c.ch = 1) (h0 : s.st ≠ 0) : (mkT c T con l s).startMissing = mkT c T con l s := by
  unfold PM.startMissing
  rw [usedT h0, startTo_full _ (Int.le_of_eq hc)]

/-- Nobody waits: the Idle worker stays so. -/
theorem idleT {c : Cfg} {T : Int} {con : Nat → PConn} {l : List Req} {s : PSlot} (hd : c.dyn = false) (hc : c.ch = 1) (h0 : s.st ≠ 0) (hw : firstW l 0 = none) : (mkT c T con l s).settle = mkT c T con l s := by
  unfold PM.settle PM.leaseWaiting
  rw [show (mkT c T con l s).set.dyn = false from hd, cond_false, startT hc h0]
  exact leaseTo_nofw (m := mkT c T con l s) hw 6

theorem leaseTo_from {m X : PM} {k : Nat} (h : m.leaseTo k = X) (hx : X.fw = none) : ∀ n, m.leaseTo (k + n) = X
  | 0 => h
  | n + 1 => by
    have ih := leaseTo_from h hx n
    show (m.leaseTo (k + n)).leaseAt (k + n) = X
    rw [ih]
    unfold PM.leaseAt
    rw [hx]

/-- The one that waits is leased. -/
theorem leaseT {c : Cfg} {T : Int} {con : Nat → PConn} {i : Int} {cn : Int} {bd : ByteArray} {s : PSlot} (hd : c.dyn = false) (hc : c.ch = 1) (h2 : s.st = 2) :
    (mkT c T con [⟨cn, i, 1, bd⟩] s).settle = mkT c T con [⟨cn, i, 2, ⟨#[]⟩⟩] ⟨3, s.old, wrap64 (s.served + 1), T, cn, i, bd⟩ := by
  have h1 : (mkT c T con [⟨cn, i, 1, bd⟩] s).leaseTo 1 = mkT c T con [⟨cn, i, 2, ⟨#[]⟩⟩] ⟨3, s.old, wrap64 (s.served + 1), T, cn, i, bd⟩ := by
    show (mkT c T con [⟨cn, i, 1, bd⟩] s).leaseAt 0 = _
    have e : (mkT c T con [⟨cn, i, 1, bd⟩] s).leaseAt 0 = cond (s.st == 2) ((mkT c T con [⟨cn, i, 1, bd⟩] s).lease 0 0 ⟨cn, i, 1, bd⟩) (mkT c T con [⟨cn, i, 1, bd⟩] s) := rfl
    rw [e, h2]
    show (mkT c T con [⟨cn, i, 1, bd⟩] s).lease 0 0 ⟨cn, i, 1, bd⟩ = _
    unfold PM.lease
    show (⟨c, T, con, _, upd (oneSlot s) 0 _⟩ : PM) = _
    rw [oneSlot_upd]
    rfl
  unfold PM.settle PM.leaseWaiting
  rw [show (mkT c T con [⟨cn, i, 1, bd⟩] s).set.dyn = false from hd, cond_false, startT hc (by rw [h2]; omega)]
  exact leaseTo_from h1 rfl 5

theorem spawn_late (t T : Int) : (mkT (lateC t) T con0 [] (newSlot 1)).afterSpawned 0 = mkT (lateC t) T con0 [] (newSlot 2) := by
  have e2 : (mkT (lateC t) T con0 [] (newSlot 1)).becomesAt 0 2 = mkT (lateC t) T con0 [] (newSlot 2) := by
    unfold PM.becomesAt
    show (⟨_, T, con0, [], upd (oneSlot (newSlot 1)) 0 _⟩ : PM) = _
    rw [oneSlot_upd]
    rfl
  have e1 : (mkT (lateC t) T con0 [] (newSlot 1)).stE 0 1 = 0 := rfl
  have e3 : ((mkT (lateC t) T con0 [] (newSlot 1)).slot 0).old = false := rfl
  unfold PM.afterSpawned PM.spawned
  rw [e1, show ((0 : Int) == 0) = true from rfl, cond_true, show (0 : Int).toNat = 0 from rfl, e3, cond_false, e2]
  exact idleT rfl rfl (by decide) rfl

theorem connect_late (t T : Int) : (mkT (lateC t) T con0 [] (newSlot 2)).afterConnect 2 = mkT (lateC t) T con2 [] (newSlot 2) := rfl

theorem con2_rest : (con2 2).rest = ⟨#[]⟩ := rfl

theorem setRest_con2 (c : Cfg) (T : Int) (l : List Req) (s : PSlot) : (mkT c T con2 l s).setRest 2 ⟨#[]⟩ = mkT c T con2 l s := PM.setRest_same _ 2 _ rfl

/-- One record comes. -/
theorem feed_late (t T : Int) (l l' : List Req) (s s' : PSlot) (r : Rec) (p : List Int) (hg : Good r p) (hw : wrongB r.1 r.2.2.size = false) (hag : (mkT (lateC t) T con2 l s).again 2 r.2.1 r.1 = false)
    (ht : ((mkT (lateC t) T con2 l s).take 2 r).settle = mkT (lateC t) T con2 l' s') : (mkT (lateC t) T con2 l s).afterFeed 2 (enc r.1 r.2.1 r.2.2 p) = mkT (lateC t) T con2 l' s' := by
  obtain ⟨h2, h3, hz⟩ := enc_rcode r p hg hw
  have e1 : (mkT (lateC t) T con2 l s).chk 2 = 0 := rfl
  unfold PM.afterFeed
  rw [e1, show ((0 : Int) == 0) = true from rfl, cond_true, show (2 : Int).toNat = 2 from rfl, PM.feed_one _ 2 rfl _ h2 hz (by rw [h3]; exact hag), h3, ht, setRest_con2]

theorem begin_late (t T : Int) : (mkT (lateC t) T con2 [] (newSlot 2)).afterFeed 2 (enc 1 5 ⟨#[1]⟩ (padL 0)) = mkT (lateC t) T con2 [⟨2, 5, 0, ⟨#[]⟩⟩] (newSlot 2) := by
  refine feed_late t T _ _ _ _ (1, 5, ⟨#[1]⟩) _ ⟨rfl, by decide⟩ rfl rfl ?_
  have e : (mkT (lateC t) T con2 [] (newSlot 2)).take 2 (1, 5, ⟨#[1]⟩) = mkT (lateC t) T con2 [⟨2, 5, 0, ⟨#[]⟩⟩] (newSlot 2) := by
    unfold PM.take
    rw [if_pos rfl]
    unfold PM.begin_
    have e1 : ((⟨#[1]⟩ : ByteArray).toList == [1]) = true := by rw [ByteArray.toList_eq]; rfl
    have e2 : decide (((mkT (lateC t) T con2 [] (newSlot 2)).keysOf ((2 : Nat) : Int)).length ≥ 4) = false := rfl
    simp only []
    rw [e1, e2]
    rfl
  rw [e]
  exact idleT rfl rfl (by decide) rfl

theorem in_late (t T : Int) : (mkT (lateC t) T con2 [⟨2, 5, 0, ⟨#[]⟩⟩] (newSlot 2)).afterFeed 2 (enc 5 5 ⟨#[120]⟩ (padL 1)) = mkT (lateC t) T con2 [⟨2, 5, 0, ⟨#[120]⟩⟩] (newSlot 2) := by
  refine feed_late t T _ _ _ _ (5, 5, ⟨#[120]⟩) _ ⟨rfl, by decide⟩ rfl rfl ?_
  have e : (mkT (lateC t) T con2 [⟨2, 5, 0, ⟨#[]⟩⟩] (newSlot 2)).take 2 (5, 5, ⟨#[120]⟩) = mkT (lateC t) T con2 [⟨2, 5, 0, ⟨#[120]⟩⟩] (newSlot 2) := by
    unfold PM.take
    rw [if_neg (by decide), if_pos rfl]
    unfold PM.in_
    show (mkT (lateC t) T con2 [⟨2, 5, 0, ⟨#[]⟩⟩] (newSlot 2)).inAt 2 5 ⟨#[120]⟩ 0 ⟨2, 5, 0, ⟨#[]⟩⟩ = _
    unfold PM.inAt
    have e1 : ((⟨#[120]⟩ : ByteArray).toList == []) = false := by rw [ByteArray.toList_eq]; rfl
    rw [e1]
    rfl
  rw [e]
  exact idleT rfl rfl (by decide) rfl

theorem end_late (t T : Int) : (mkT (lateC t) T con2 [⟨2, 5, 0, ⟨#[120]⟩⟩] (newSlot 2)).afterFeed 2 (enc 5 5 ⟨#[]⟩ (padL 0)) = mkT (lateC t) T con2 [⟨2, 5, 2, ⟨#[]⟩⟩] (busyS T) := by
  refine feed_late t T _ _ _ _ (5, 5, ⟨#[]⟩) _ ⟨rfl, by decide⟩ rfl rfl ?_
  have e : (mkT (lateC t) T con2 [⟨2, 5, 0, ⟨#[120]⟩⟩] (newSlot 2)).take 2 (5, 5, ⟨#[]⟩) = mkT (lateC t) T con2 [⟨2, 5, 1, ⟨#[120]⟩⟩] (newSlot 2) := by
    unfold PM.take
    rw [if_neg (by decide), if_pos rfl]
    unfold PM.in_
    show (mkT (lateC t) T con2 [⟨2, 5, 0, ⟨#[120]⟩⟩] (newSlot 2)).inAt 2 5 ⟨#[]⟩ 0 ⟨2, 5, 0, ⟨#[120]⟩⟩ = _
    unfold PM.inAt
    have e1 : ((⟨#[]⟩ : ByteArray).toList == []) = true := by rw [ByteArray.toList_eq]; rfl
    rw [e1]
    show (mkT (lateC t) T con2 [⟨2, 5, 0, ⟨#[120]⟩⟩] (newSlot 2)).enqueue 2 5 ⟨#[120]⟩ = _
    unfold PM.enqueue
    have e2 : (mkT (lateC t) T con2 [⟨2, 5, 0, ⟨#[120]⟩⟩] (newSlot 2)).room = true := rfl
    rw [e2]
    rfl
  have ew : wrap64 ((newSlot 2).served + 1) = 1 := wrap_small (by decide) (by decide)
  rw [e, leaseT rfl rfl rfl, ew]
  rfl

theorem lateTo_rest {m X : PM} (h : m.lateTo 1 = X) (hx : ∀ k, 1 ≤ k → k < 6 → (X.slot k).st ≠ 3) : ∀ n, n ≤ 5 → m.lateTo (1 + n) = X
  | 0, _ => h
  | n + 1, hn => by
    have ih := lateTo_rest h hx n (by omega)
    have e : m.lateTo (1 + (n + 1)) = cond ((m.lateTo (1 + n)).lateAt (1 + n)) (((m.lateTo (1 + n)).endKeyOf (1 + n) 6).kill (1 + n)) (m.lateTo (1 + n)) := rfl
    rw [e, ih]
    have : X.lateAt (1 + n) = false := by
      unfold PM.lateAt
      rw [show ((X.slot (1 + n)).st == 3) = false from by simpa using hx (1 + n) (by omega) (by omega)]
      rfl
    rw [this]; rfl

theorem oneSlot_rest (s : PSlot) (k : Nat) (hk : 1 ≤ k) : (oneSlot s k).st ≠ 3 := by
  unfold oneSlot
  rw [if_neg (by omega)]
  simp [newSlot]

/-- A Tick at which the lease is not old enough. -/
theorem tick_busy (t T S : Int) (h : ¬ (0 < t ∧ t ≤ wrap64 (wrap64 (T + 1) - S))) : (mkT (lateC t) T con2 [⟨2, 5, 2, ⟨#[]⟩⟩] (busyS S)).tick = mkT (lateC t) (wrap64 (T + 1)) con2 [⟨2, 5, 2, ⟨#[]⟩⟩] (busyS S) := by
  have e : (mkT (lateC t) T con2 [⟨2, 5, 2, ⟨#[]⟩⟩] (busyS S)).ticked = mkT (lateC t) (wrap64 (T + 1)) con2 [⟨2, 5, 2, ⟨#[]⟩⟩] (busyS S) := rfl
  have hl : (mkT (lateC t) (wrap64 (T + 1)) con2 [⟨2, 5, 2, ⟨#[]⟩⟩] (busyS S)).late = mkT (lateC t) (wrap64 (T + 1)) con2 [⟨2, 5, 2, ⟨#[]⟩⟩] (busyS S) := by
    have e1 : (mkT (lateC t) (wrap64 (T + 1)) con2 [⟨2, 5, 2, ⟨#[]⟩⟩] (busyS S)).late = cond (decide (0 < t)) ((mkT (lateC t) (wrap64 (T + 1)) con2 [⟨2, 5, 2, ⟨#[]⟩⟩] (busyS S)).lateTo 6) (mkT (lateC t) (wrap64 (T + 1)) con2 [⟨2, 5, 2, ⟨#[]⟩⟩] (busyS S)) := rfl
    rw [e1]
    by_cases h0 : 0 < t
    · rw [decide_eq_true h0, cond_true]
      refine lateTo_rest (X := mkT (lateC t) (wrap64 (T + 1)) con2 [⟨2, 5, 2, ⟨#[]⟩⟩] (busyS S)) ?_ (fun k h1 _ => oneSlot_rest _ k h1) 5 (Nat.le_refl _)
      have e2 : (mkT (lateC t) (wrap64 (T + 1)) con2 [⟨2, 5, 2, ⟨#[]⟩⟩] (busyS S)).lateAt 0 = decide (t ≤ wrap64 (wrap64 (T + 1) - S)) := rfl
      unfold PM.lateTo PM.lateTo
      rw [e2, decide_eq_false (fun h2 => h ⟨h0, h2⟩), cond_false]
    · rw [decide_eq_false h0, cond_false]
  unfold PM.tick PM.tickS
  rw [e, hl, show (mkT (lateC t) T con2 [⟨2, 5, 2, ⟨#[]⟩⟩] (busyS S)).set.dyn = false from rfl, cond_false]
  exact calmT rfl rfl (show (3 : Int) ≠ 0 by decide) (show (3 : Int) ≠ 2 by decide)

/-- The Tick at which it is. -/
theorem tick_late (t T S : Int) (h0 : 0 < t) (h1 : t ≤ wrap64 (wrap64 (T + 1) - S)) : (mkT (lateC t) T con2 [⟨2, 5, 2, ⟨#[]⟩⟩] (busyS S)).tick = mkT (lateC t) (wrap64 (T + 1)) conL [] dyingS := by
  have e : (mkT (lateC t) T con2 [⟨2, 5, 2, ⟨#[]⟩⟩] (busyS S)).ticked = mkT (lateC t) (wrap64 (T + 1)) con2 [⟨2, 5, 2, ⟨#[]⟩⟩] (busyS S) := rfl
  have hl : (mkT (lateC t) (wrap64 (T + 1)) con2 [⟨2, 5, 2, ⟨#[]⟩⟩] (busyS S)).late = mkT (lateC t) (wrap64 (T + 1)) conL [] dyingS := by
    have e1 : (mkT (lateC t) (wrap64 (T + 1)) con2 [⟨2, 5, 2, ⟨#[]⟩⟩] (busyS S)).late = cond (decide (0 < t)) ((mkT (lateC t) (wrap64 (T + 1)) con2 [⟨2, 5, 2, ⟨#[]⟩⟩] (busyS S)).lateTo 6) (mkT (lateC t) (wrap64 (T + 1)) con2 [⟨2, 5, 2, ⟨#[]⟩⟩] (busyS S)) := rfl
    rw [e1, decide_eq_true h0, cond_true]
    refine lateTo_rest (X := mkT (lateC t) (wrap64 (T + 1)) conL [] dyingS) ?_ (fun k h1 _ => oneSlot_rest _ k h1) 5 (Nat.le_refl _)
    have e2 : (mkT (lateC t) (wrap64 (T + 1)) con2 [⟨2, 5, 2, ⟨#[]⟩⟩] (busyS S)).lateAt 0 = decide (t ≤ wrap64 (wrap64 (T + 1) - S)) := rfl
    unfold PM.lateTo PM.lateTo
    rw [e2, decide_eq_true h1, cond_true]
    generalize wrap64 (T + 1) = T'
    have e3 : (mkT (lateC t) T' con2 [⟨2, 5, 2, ⟨#[]⟩⟩] (busyS S)).endKeyOf 0 6 = mkT (lateC t) T' conL [] ⟨3, false, 1, S, -1, 0, ⟨#[120]⟩⟩ := by
      show (mkT (lateC t) T' con2 [⟨2, 5, 2, ⟨#[]⟩⟩] (busyS S)).endKey 2 5 6 = _
      unfold PM.endKey PM.drop
      have e4 : ((mkT (lateC t) T' con2 [⟨2, 5, 2, ⟨#[]⟩⟩] (busyS S)).sendB 2 (encB 3 5 (strOfNums [6]))).slotOf (2 : Nat) 5 = some 0 := rfl
      rw [e4]
      show (⟨lateC t, T', _, _, upd (oneSlot (busyS S)) 0 _⟩ : PM) = _
      rw [oneSlot_upd]
      rfl
    rw [e3]
    show (⟨lateC t, T', conL, [], upd (oneSlot _) 0 _⟩ : PM) = _
    rw [oneSlot_upd]
    rfl
  unfold PM.tick PM.tickS
  rw [e, hl, show (mkT (lateC t) T con2 [⟨2, 5, 2, ⟨#[]⟩⟩] (busyS S)).set.dyn = false from rfl, cond_false]
  exact calmT rfl rfl (show (4 : Int) ≠ 0 by decide) (show (4 : Int) ≠ 2 by decide)

end Go.Proofs.Ytlafkpaljibonaa

namespace Go.Proofs.Ytlafkpaljibonaa
open Go.RowKit

section
variable {o o' : Nat → Tag} {w w' : World} {b B : Nat} {M : PM} {sv : Nat → Value} {rv : Value}

def Sole (o : Nat → Tag) (w : World) (b : Nat) (m : PM) : Prop := ∃ sv rv, FMem o 1 w b m sv rv
theorem Sole.below (h : Sole o w b M) (hb : Below w.heap.size w w') : Sole o w' b M := by obtain ⟨x, y, h⟩ := h; exact ⟨x, y, h.below hb⟩

theorem sole_feed (h : Sole o w b M) (hf : M.Fit B) (hB : B ≤ 48000000) (n : Int) (s : ByteArray) (hs : s.size ≤ 1000) {M' : PM} (he : M.afterFeed n s = M') (hc : M.chk n = 0) :
    Calls Try.prog 25 #[.pointer (some ⟨b, 0, none⟩), .int .i64 n, .string s] w fun r w' => r = .returned (.int .i64 0) ∧ ∃ o', Sole o' w' b M' ∧ Fr 1 o w o' w' := by
  obtain ⟨_, _, h⟩ := h
  refine (feed_left h (by omega) hf hB n s (by omega)).mono ?_
  rintro r w' ⟨e, o', x, y, h1, h2⟩
  rw [he] at h1
  rw [hc] at e
  exact ⟨e, o', ⟨x, y, h1⟩, h2⟩
theorem sole_tick (h : Sole o w b M) (hf : M.Fit B) (hB : B ≤ 48000000) {M' : PM} (he : M.tick = M') :
    Calls Try.prog 33 #[.pointer (some ⟨b, 0, none⟩)] w fun r w' => r = .returned (.tuple #[]) ∧ ∃ o', Sole o' w' b M' ∧ Fr 1 o w o' w' := by
  obtain ⟨_, _, h⟩ := h
  refine (tick_left h (by omega) hf hB).mono ?_
  rintro r w' ⟨e, o', x, y, h1, h2⟩
  rw [he] at h1
  exact ⟨e, o', ⟨x, y, h1⟩, h2⟩

set_option maxRecDepth 100000 in
set_option maxHeartbeats 4000000 in
/-- 'fed' at these arguments, with a worker that is Idle. -/
theorem fed_late (t T : Int) (h : Sole o w b (mkT (lateC t) T con2 [] (newSlot 2))) (hf : (mkT (lateC t) T con2 [] (newSlot 2)).Fit B) (hB : B ≤ 40000000) :
    Calls Try.prog 29 #[.pointer (some ⟨b, 0, none⟩), .int .i64 2, .int .i64 5, .string ⟨#[120]⟩, .int .i64 1] w fun r w' => r = .returned (.bool true) ∧ ∃ o', Sole o' w' b (mkT (lateC t) T con2 [⟨2, 5, 2, ⟨#[]⟩⟩] (busyS T)) ∧ Fr 1 o w o' w' := by
  have hf1 : (mkT (lateC t) T con2 [⟨2, 5, 0, ⟨#[]⟩⟩] (newSlot 2)).Fit (B + 1000) := by
    have := hf.afterFeed 2 (enc 1 5 ⟨#[1]⟩ (padL 0))
    rw [begin_late] at this
    exact this.mono (by rw [enc_size, padL_length]; show B + (8 + 1 + 0) + 300 ≤ _; omega)
  have hf2 : (mkT (lateC t) T con2 [⟨2, 5, 0, ⟨#[120]⟩⟩] (newSlot 2)).Fit (B + 2000) := by
    have := hf1.afterFeed 2 (enc 5 5 ⟨#[120]⟩ (padL 1))
    rw [in_late] at this
    exact this.mono (by rw [enc_size, padL_length]; show B + 1000 + (8 + 1 + 1) + 300 ≤ _; omega)
  have s1 : (enc 1 5 ⟨#[1]⟩ (padL 0)).size ≤ 1000 := by rw [enc_size, padL_length]; decide
  have s2 : (enc 5 5 ⟨#[120]⟩ (padL 1)).size ≤ 1000 := by rw [enc_size, padL_length]; decide
  have s3 : (enc 5 5 ⟨#[]⟩ (padL 0)).size ≤ 1000 := by rw [enc_size, padL_length]; decide
  have b1 : Hid (∀ w', Calls Try.prog 16 #[.int .i64 1, .int .i64 5, .string ⟨#[1]⟩, .int .i64 0] w' fun r w'' => r = .returned (.string (enc 1 5 ⟨#[1]⟩ (padL 0))) ∧ Below w'.heap.size w' w'') := fun w' => bytes_any 1 5 ⟨#[1]⟩ 0 w' (by omega) (by omega) (by decide) (by omega)
  have b2 : Hid (∀ w', Calls Try.prog 16 #[.int .i64 5, .int .i64 5, .string ⟨#[120]⟩, .int .i64 1] w' fun r w'' => r = .returned (.string (enc 5 5 ⟨#[120]⟩ (padL 1))) ∧ Below w'.heap.size w' w'') := fun w' => bytes_any 5 5 ⟨#[120]⟩ 1 w' (by omega) (by omega) (by decide) (by omega)
  have b3 : Hid (∀ w', Calls Try.prog 16 #[.int .i64 5, .int .i64 5, .string ⟨#[]⟩, .int .i64 0] w' fun r w'' => r = .returned (.string (enc 5 5 ⟨#[]⟩ (padL 0))) ∧ Below w'.heap.size w' w'') := fun w' => bytes_any 5 5 ⟨#[]⟩ 0 w' (by omega) (by omega) (by decide) (by omega)
  have f1 : Hid (∀ o' w', Sole o' w' b (mkT (lateC t) T con2 [] (newSlot 2)) → Calls Try.prog 25 #[.pointer (some ⟨b, 0, none⟩), .int .i64 2, .string (enc 1 5 ⟨#[1]⟩ (padL 0))] w' fun r w'' => r = .returned (.int .i64 0) ∧ ∃ o'', Sole o'' w'' b (mkT (lateC t) T con2 [⟨2, 5, 0, ⟨#[]⟩⟩] (newSlot 2)) ∧ Fr 1 o' w' o'' w'') := fun o' w' h' => sole_feed h' hf (by omega) 2 _ s1 (begin_late t T) rfl
  have f2 : Hid (∀ o' w', Sole o' w' b (mkT (lateC t) T con2 [⟨2, 5, 0, ⟨#[]⟩⟩] (newSlot 2)) → Calls Try.prog 25 #[.pointer (some ⟨b, 0, none⟩), .int .i64 2, .string (enc 5 5 ⟨#[120]⟩ (padL 1))] w' fun r w'' => r = .returned (.int .i64 0) ∧ ∃ o'', Sole o'' w'' b (mkT (lateC t) T con2 [⟨2, 5, 0, ⟨#[120]⟩⟩] (newSlot 2)) ∧ Fr 1 o' w' o'' w'') := fun o' w' h' => sole_feed h' hf1 (by omega) 2 _ s2 (in_late t T) rfl
  have f3 : Hid (∀ o' w', Sole o' w' b (mkT (lateC t) T con2 [⟨2, 5, 0, ⟨#[120]⟩⟩] (newSlot 2)) → Calls Try.prog 25 #[.pointer (some ⟨b, 0, none⟩), .int .i64 2, .string (enc 5 5 ⟨#[]⟩ (padL 0))] w' fun r w'' => r = .returned (.int .i64 0) ∧ ∃ o'', Sole o'' w'' b (mkT (lateC t) T con2 [⟨2, 5, 2, ⟨#[]⟩⟩] (busyS T)) ∧ Fr 1 o' w' o'' w'') := fun o' w' h' => sole_feed h' hf2 (by omega) 2 _ s3 (end_late t T) rfl
  clear hf hf1 hf2 s1 s2 s3
  have hcl : Clean o w := by obtain ⟨_, _, h'⟩ := h; exact h'.clean
  generalize mkT (lateC t) T con2 [] (newSlot 2) = M0 at *
  generalize mkT (lateC t) T con2 [⟨2, 5, 0, ⟨#[]⟩⟩] (newSlot 2) = M1 at *
  generalize mkT (lateC t) T con2 [⟨2, 5, 0, ⟨#[120]⟩⟩] (newSlot 2) = M2 at *
  obtain ⟨M3, h3⟩ : ∃ M3, mkT (lateC t) T con2 [⟨2, 5, 2, ⟨#[]⟩⟩] (busyS T) = M3 := ⟨_, rfl⟩
  rw [h3] at f3 ⊢
  clear h3
  generalize enc 1 5 ⟨#[1]⟩ (padL 0) = E1 at *
  generalize enc 5 5 ⟨#[120]⟩ (padL 1) = E2 at *
  generalize enc 5 5 ⟨#[]⟩ (padL 0) = E3 at *
  go_enter Try.func29, Try.ntmps29
  go_wp2_with fail
  refine (b1.out _).mono ?_
  rintro e w1 ⟨rfl, hb1⟩
  have h1 := h.below hb1
  go_wp2_with fail
  refine (f1.out _ _ h1).mono ?_
  rintro e w2 ⟨rfl, o2, h2, fr2⟩
  go_wp2
  go_loopw [3, 11, 12] (fun bd bx e w' => (bd = .string ⟨#[120]⟩ ∧ e = .int .i64 0 ∧ ∃ o', Sole o' w' b M1 ∧ Fr 1 o w o' w') ∨ (bd = .string ⟨#[]⟩ ∧ e = .int .i64 0 ∧ ∃ o', Sole o' w' b M2 ∧ Fr 1 o w o' w')) (fun bd _ _ _ => match bd with | .string s => s.size | _ => 0)
  case atStart => exact .inl ⟨rfl, rfl, o2, h2, (Fr.of_below hcl hb1).trans fr2⟩
  case round =>
    rcases hrel with ⟨rfl, rfl, o3, h3, fr3⟩ | ⟨rfl, rfl, o3, h3, fr3⟩
    · have ex : (⟨#[120]⟩ : ByteArray).extract 0 1 = ⟨#[120]⟩ := rfl
      have b2x : Hid (∀ w', Calls Try.prog 16 #[.int .i64 5, .int .i64 5, .string ((⟨#[120]⟩ : ByteArray).extract 0 1), .int .i64 1] w' fun r w'' => r = .returned (.string E2) ∧ Below w'.heap.size w' w'') := by rw [ex]; exact b2
      go_wp2_with fail
      refine (b2x.out _).mono ?_
      rintro e w4 ⟨rfl, hb4⟩
      have h4 := h3.below hb4
      go_wp2_with fail
      refine (f2.out _ _ h4).mono ?_
      rintro e w5 ⟨rfl, o5, h5, fr5⟩
      clear b2x
      go_wp2
      refine ⟨.inr ⟨?_, rfl, o5, h5, (fr3.below hb4).trans fr5⟩, ?_⟩
      · rfl
      · decide
    · go_wp2_with fail
      refine (b3.out _).mono ?_
      rintro e w4 ⟨rfl, hb4⟩
      have h4 := h3.below hb4
      go_wp2_with fail
      refine (f3.out _ _ h4).mono ?_
      rintro e w5 ⟨rfl, o5, h5, fr5⟩
      go_wp2
      go_ret
      exact ⟨rfl, o5, h5, (fr3.below hb4).trans fr5⟩
end
end Go.Proofs.Ytlafkpaljibonaa
