import Derived.Test.YtlafkpaljibonaaJ7
namespace Go.Proofs.Ytlafkpaljibonaa
open Go.RowKit

/-- Nothing is to be started, and nobody is Idle. -/
structure PM.calm (m : PM) : Prop where
  dyn : m.set.dyn = false
  used : m.set.ch ≤ m.usedTo 6
  idle : ∀ k, k < 6 → (m.slot k).st ≠ 2

theorem startTo_full (m : PM) {u : Int} (h : m.set.ch ≤ u) : ∀ k, startTo m u k = (m, u)
  | 0 => rfl
  | k + 1 => by
    have ih := startTo_full m h k
    have e : startTo m u (k + 1) = cond (decide ((startTo m u k).2 < m.set.ch) && ((startTo m u k).1.slot k).st == 0) ({ (startTo m u k).1 with slot := upd (startTo m u k).1.slot k (newSlot 1) }, (startTo m u k).2 + 1) (startTo m u k) := rfl
    rw [e, ih, decide_eq_false (by simp only []; omega)]
    rfl

theorem leaseTo_none (m : PM) (h : ∀ k, k < 6 → (m.slot k).st ≠ 2) : ∀ k, k ≤ 6 → m.leaseTo k = m
  | 0, _ => rfl
  | k + 1, hk => by
    have ih := leaseTo_none m h k (by omega)
    have e : m.leaseTo (k + 1) = (m.leaseTo k).leaseAt k := rfl
    rw [e, ih]
    unfold PM.leaseAt
    have hs : ((m.slot k).st == 2) = false := by simpa using h k (by omega)
    rw [hs]
    cases m.fw <;> rfl

theorem PM.calm.settle {m : PM} (h : m.calm) : m.settle = m := by
  unfold PM.settle PM.leaseWaiting PM.startMissing
  rw [h.dyn, startTo_full m h.used]
  exact leaseTo_none m h.idle 6 (Nat.le_refl _)

theorem PM.setRest_same (m : PM) (k : Nat) (s : ByteArray) (h : (m.con k).rest = s) : m.setRest k s = m := by
  unfold PM.setRest
  have : upd m.con k { m.con k with rest := s } = m.con := by
    funext j
    simp only [upd]
    split
    · rename_i e; subst e; rw [← h]
    · rfl
  rw [this]

theorem left_end (s : ByteArray) : left s s.size = ⟨#[]⟩ := by
  unfold left
  apply ByteArray.ext
  simp

theorem left_zero (s : ByteArray) : left s 0 = s := by
  unfold left
  simp

/-- One whole record comes, and nothing was held back. -/
theorem PM.feed_one (m : PM) (k : Nat) (hr : (m.con k).rest = ⟨#[]⟩) (s : ByteArray) (h2 : rcode true s = 2) (hz : sizeT s = s.size) (hag : m.again k (recT s).2.1 (recT s).1 = false) :
    m.feed k s = ((m.take k (recT s)).settle).setRest k ⟨#[]⟩ := by
  obtain ⟨h8, -⟩ := rcode_two h2
  unfold PM.feed
  rw [hr, nil_ba]
  have e1 : PM.takeAll k s (s.size + 1) m 0 = PM.takeAll k s s.size ((m.take k (recT s)).settle) (0 + s.size) := by
    show (if rcode true (left s 0) = 0 then _ else if rcode true (left s 0) = 1 then _ else _) = _
    rw [left_zero, h2, if_neg (by omega), if_neg (by omega), hag, hz]
    rfl
  obtain ⟨f, hf⟩ : ∃ f, s.size = f + 1 := ⟨s.size - 1, by omega⟩
  have e2 : ∀ (M : PM), PM.takeAll k s s.size M s.size = M.setRest k ⟨#[]⟩ := by
    intro M
    have h0 : rcode true (left s s.size) = 0 := by
      unfold rcode
      rw [if_pos]
      rw [left_size]; omega
    rw [show PM.takeAll k s s.size M s.size = PM.takeAll k s (f + 1) M s.size from by rw [← hf]]
    show (if rcode true (left s s.size) = 0 then M.setRest k (left s s.size) else _) = _
    rw [if_pos h0, left_end]
  rw [e1, Nat.zero_add, e2]

/-- A record's bytes, as a client may send them. -/
theorem enc_rcode (r : Rec) (p : List Int) (hg : Good r p) (hw : wrongB r.1 r.2.2.size = false) : rcode true (enc r.1 r.2.1 r.2.2 p) = 2 ∧ recT (enc r.1 r.2.1 r.2.2 p) = r ∧ sizeT (enc r.1 r.2.1 r.2.2 p) = (enc r.1 r.2.1 r.2.2 p).size := by
  have e : enc r.1 r.2.1 r.2.2 p = strOfNums (encL r p) := rfl
  rw [e]
  have h := step_enc r p [] hg
  rw [List.append_nil] at h
  obtain ⟨h1, h2, h3⟩ := h
  have ht := take8_enc r p []
  rw [List.append_nil] at ht
  obtain ⟨e1, -, e3, -, -⟩ := head_enc r p (encL r p) hg ht
  refine ⟨?_, h2, by rw [h3, strOfNums_size]⟩
  rw [← h1]
  unfold rcode code stopT wrongT
  rw [e1, e3, hw]
  simp

theorem findFrom_last (c i : Int) (x : Req) : ∀ (l : List Req) (k : Nat), (∀ r ∈ l, isKey c i r = false) → isKey c i x = true → findFrom c i (l ++ [x]) k = some (k + l.length)
  | [], k, _, hx => by
    show cond (isKey c i x) (some k) _ = _
    rw [hx]; rfl
  | r :: l, k, h, hx => by
    show cond (isKey c i r) (some k) (findFrom c i (l ++ [x]) (k + 1)) = _
    rw [h r (by simp), cond_false, findFrom_last c i x l (k + 1) (fun y hy => h y (by simp [hy])) hx]
    simp only [List.length_cons]
    congr 1
    omega

theorem findFrom_nobody (c i : Int) : ∀ (l : List Req) (k : Nat), (∀ r ∈ l, isKey c i r = false) → findFrom c i l k = none
  | [], _, _ => rfl
  | r :: l, k, h => by
    show cond (isKey c i r) (some k) (findFrom c i l (k + 1)) = _
    rw [h r (by simp), cond_false, findFrom_nobody c i l (k + 1) (fun y hy => h y (by simp [hy]))]

/-- The same foreman with other requests. -/
def PM.withReq (m : PM) (l : List Req) : PM := { m with req := l }

theorem PM.calm.withReq {m : PM} (h : m.calm) (l : List Req) : (m.withReq l).calm :=
  ⟨h.dyn, h.used, h.idle⟩

section
variable {m : PM} {W : List Req} {c : Nat} {i : Int}

theorem feedBegin (hc : m.calm) (hr : (m.con c).rest = ⟨#[]⟩) (hno : ∀ r ∈ W, isKey c i r = false) (hi : 1 ≤ i ∧ i ≤ 65535) (hkeys : (W.filter fun r => r.conn == (c : Int)).length < 4) :
    (m.withReq W).feed c (enc 1 i ⟨#[1]⟩ []) = m.withReq (W ++ [newReq c i]) := by
  obtain ⟨h1, h2, h3⟩ := enc_rcode (1, i, ⟨#[1]⟩) [] ⟨by simp [allowedB, isKindB, ByteArray.size]; omega, by simp⟩ rfl
  have h1 : rcode true (enc 1 i ⟨#[1]⟩ []) = 2 := h1
  have h2 : recT (enc 1 i ⟨#[1]⟩ []) = (1, i, ⟨#[1]⟩) := h2
  have h3 : sizeT (enc 1 i ⟨#[1]⟩ []) = (enc 1 i ⟨#[1]⟩ []).size := h3
  have hf : (m.withReq W).find c i = none := findFrom_nobody c i W 0 hno
  have hag : (m.withReq W).again c (recT (enc 1 i ⟨#[1]⟩ [])).2.1 (recT (enc 1 i ⟨#[1]⟩ [])).1 = false := by
    rw [h2]
    unfold PM.again
    rw [hf]; rfl
  rw [PM.feed_one (m.withReq W) c hr _ h1 h3 hag, h2]
  have ht : (m.withReq W).take c (1, i, ⟨#[1]⟩) = m.withReq (W ++ [newReq c i]) := by
    unfold PM.take
    rw [if_pos rfl]
    unfold PM.begin_
    have e1 : ((⟨#[1]⟩ : ByteArray).toList == [1]) = true := by rw [ByteArray.toList_eq]; rfl
    have e2 : decide (((m.withReq W).keysOf c).length ≥ 4) = false := by
      rw [decide_eq_false]
      unfold PM.keysOf
      rw [List.length_map]
      show ¬ (W.filter fun r => r.conn == (c : Int)).length ≥ 4
      omega
    simp only []
    rw [e1, e2]
    rfl
  rw [ht, (hc.withReq _).settle]
  exact PM.setRest_same _ _ _ hr

theorem feedIn (hc : m.calm) (hr : (m.con c).rest = ⟨#[]⟩) (hno : ∀ r ∈ W, isKey c i r = false) (hi : 1 ≤ i ∧ i ≤ 65535) (b t : ByteArray) (ht0 : 0 < t.size) (ht : t.size ≤ 200) (hb : b.size + t.size ≤ 500) (p : List Int) (hp : p.length ≤ 7) :
    (m.withReq (W ++ [⟨c, i, 0, b⟩])).feed c (enc 5 i t p) = m.withReq (W ++ [⟨c, i, 0, b ++ t⟩]) := by
  obtain ⟨h1, h2, h3⟩ := enc_rcode (5, i, t) p ⟨by simp [allowedB, isKindB]; omega, hp⟩ rfl
  have h1 : rcode true (enc 5 i t p) = 2 := h1
  have h2 : recT (enc 5 i t p) = (5, i, t) := h2
  have h3 : sizeT (enc 5 i t p) = (enc 5 i t p).size := h3
  have hf : (m.withReq (W ++ [⟨c, i, 0, b⟩])).find c i = some W.length := by
    have := findFrom_last c i ⟨c, i, 0, b⟩ W 0 hno (by simp [isKey])
    rw [Nat.zero_add] at this
    exact this
  have hag : (m.withReq (W ++ [⟨c, i, 0, b⟩])).again c (recT (enc 5 i t p)).2.1 (recT (enc 5 i t p)).1 = false := by
    rw [h2]
    unfold PM.again
    rw [hf]; rfl
  rw [PM.feed_one (m.withReq (W ++ [(⟨c, i, 0, b⟩ : Req)])) c hr _ h1 h3 hag, h2]
  have htk : (m.withReq (W ++ [⟨c, i, 0, b⟩])).take c (5, i, t) = m.withReq (W ++ [⟨c, i, 0, b ++ t⟩]) := by
    unfold PM.take
    rw [if_neg (by simp), if_pos rfl]
    simp only [PM.in_, hf]
    have hg : (m.withReq (W ++ [⟨c, i, 0, b⟩])).req.getD W.length noReq = ⟨c, i, 0, b⟩ := by simp [PM.withReq, List.getD]
    rw [hg]
    unfold PM.inAt
    have e1 : (t.toList == []) = false := by rw [ba_nil_iff]; exact decide_eq_false (by omega)
    have e2 : decide (500 < (b ++ t).size) = false := by rw [decide_eq_false]; rw [ByteArray.size_append]; omega
    simp only []
    rw [e1, e2]
    simp [PM.withReq]
  rw [htk, (hc.withReq _).settle]
  exact PM.setRest_same _ _ _ hr

theorem feedEnd (hc : m.calm) (hr : (m.con c).rest = ⟨#[]⟩) (hno : ∀ r ∈ W, isKey c i r = false) (hi : 1 ≤ i ∧ i ≤ 65535) (b : ByteArray) (hroom : ((W.filter fun r => r.stage == 1).length : Int) < m.set.bl) :
    (m.withReq (W ++ [⟨c, i, 0, b⟩])).feed c (enc 5 i ⟨#[]⟩ []) = m.withReq (W ++ [⟨c, i, 1, b⟩]) := by
  obtain ⟨h1, h2, h3⟩ := enc_rcode (5, i, ⟨#[]⟩) [] ⟨by simp [allowedB, isKindB, ByteArray.size]; omega, by simp⟩ rfl
  have h1 : rcode true (enc 5 i ⟨#[]⟩ []) = 2 := h1
  have h2 : recT (enc 5 i ⟨#[]⟩ []) = (5, i, ⟨#[]⟩) := h2
  have h3 : sizeT (enc 5 i ⟨#[]⟩ []) = (enc 5 i ⟨#[]⟩ []).size := h3
  have hf : (m.withReq (W ++ [⟨c, i, 0, b⟩])).find c i = some W.length := by
    have := findFrom_last c i ⟨c, i, 0, b⟩ W 0 hno (by simp [isKey])
    rw [Nat.zero_add] at this
    exact this
  have hag : (m.withReq (W ++ [⟨c, i, 0, b⟩])).again c (recT (enc 5 i ⟨#[]⟩ [])).2.1 (recT (enc 5 i ⟨#[]⟩ [])).1 = false := by
    rw [h2]
    unfold PM.again
    rw [hf]; rfl
  rw [PM.feed_one (m.withReq (W ++ [(⟨c, i, 0, b⟩ : Req)])) c hr _ h1 h3 hag, h2]
  have htk : (m.withReq (W ++ [⟨c, i, 0, b⟩])).take c (5, i, ⟨#[]⟩) = m.withReq (W ++ [⟨c, i, 1, b⟩]) := by
    unfold PM.take
    rw [if_neg (by simp), if_pos rfl]
    simp only [PM.in_, hf]
    have hg : (m.withReq (W ++ [⟨c, i, 0, b⟩])).req.getD W.length noReq = ⟨c, i, 0, b⟩ := by simp [PM.withReq, List.getD]
    rw [hg]
    unfold PM.inAt PM.enqueue
    have e1 : ((⟨#[]⟩ : ByteArray).toList == []) = true := by rw [ba_nil_iff]; rfl
    have hrm : (m.withReq (W ++ [⟨c, i, 0, b⟩])).room = true := by
      unfold PM.room
      have hw : (m.withReq (W ++ [⟨c, i, 0, b⟩])).waits.length = (W.filter fun r => r.stage == 1).length := by
        unfold PM.waits PM.withReq
        simp [List.filter_append]
      rw [hw]
      have : decide (((W.filter fun r => r.stage == 1).length : Int) < (m.withReq (W ++ [⟨c, i, 0, b⟩])).set.bl) = true := decide_eq_true hroom
      rw [this, Bool.or_true]
    have hwo : withoutL (m.withReq (W ++ [⟨c, i, 0, b⟩])).req c i = W := by
      unfold withoutL PM.withReq
      rw [List.filter_append, List.filter_eq_self.2 (by intro r hr'; simp [hno r hr'])]
      simp [isKey]
    simp only []
    rw [e1, hrm, hwo]
    rfl
  rw [htk, (hc.withReq _).settle]
  exact PM.setRest_same _ _ _ hr

end
end Go.Proofs.Ytlafkpaljibonaa

namespace Go.Proofs.Ytlafkpaljibonaa
open Go.RowKit

theorem extract_split (t : ByteArray) (k : Nat) (hk : k ≤ t.size) : t.extract 0 k ++ t.extract k t.size = t := by
  apply ByteArray.ext
  simp only [ByteArray.data_append, ByteArray.data_extract]
  have : t.size = t.data.size := rfl
  rw [this] at hk ⊢
  rw [Array.extract_append_extract, Nat.zero_min, Nat.max_eq_right hk, Array.extract_size]

/-- What the requests and what was sent may be, where a request is fed. -/
structure PM.tame (m : PM) : Prop where
  calm : m.calm
  sent : ∀ k, k < 4 → (m.con k).sent.length ≤ 1000000
  rest : ∀ k, k < 4 → (m.con k).rest = ⟨#[]⟩
  op : ∀ k, k < 4 → (m.con k).op = true

section
variable {o : Nat → Tag} {w : World} {b : Nat} {m : PM} {sv : Nat → Value} {rv : Value} {W : List Req} {c : Nat} {i : Int}

theorem feed_to (ht : m.tame) (hc : c < 4) (l l' : List Req) (hl : l.length ≤ 30) (hb : ∀ r ∈ l, r.body.size ≤ 1000) (s : ByteArray) (hs : s.size ≤ 1000) (he : (m.withReq l).feed c s = m.withReq l')
    (h : FMem o 1 w b (m.withReq l) sv rv) :
    Calls Try.prog 25 #[.pointer (some ⟨b, 0, none⟩), .int .i64 (c : Nat), .string s] w fun r w' => r = .returned (.int .i64 0) ∧ ∃ o' sv' rv', FMem o' 1 w' b (m.withReq l') sv' rv' ∧ Fr 1 o w o' w' := by
  have hchk : (m.withReq l).chk (c : Int) = 0 := by
    unfold PM.chk
    have e : isC (c : Int) = true := by simp [isC]; omega
    rw [e, Int.toNat_natCast, show ((m.withReq l).con c).op = true from ht.op c hc]
    rfl
  have hf := feed_any h (by omega) (c : Int) s (by omega) (fun k hk => by rw [show ((m.withReq l).con k).rest = (m.con k).rest from rfl, ht.rest k hk]; exact Nat.zero_le _) (R := 30) (S := 1000000) ⟨hl, ht.sent, hb⟩ (by omega) (by omega)
  have e2 : (m.withReq l).afterFeed (c : Int) s = m.withReq l' := by
    unfold PM.afterFeed
    rw [hchk, Int.toNat_natCast, he]
    rfl
  rw [hchk, e2] at hf
  exact hf

set_option maxRecDepth 100000 in
set_option maxHeartbeats 4000000 in
theorem fed_any (h : FMem o 1 w b (m.withReq W) sv rv) (ht : m.tame) (hc : c < 4) (hno : ∀ r ∈ W, isKey c i r = false) (hi : 1 ≤ i ∧ i ≤ 65535) (hW : W.length ≤ 20) (hWb : ∀ r ∈ W, r.body.size ≤ 1000)
    (hkeys : (W.filter fun r => r.conn == (c : Int)).length < 4) (hroom : ((W.filter fun r => r.stage == 1).length : Int) < m.set.bl) (body : ByteArray) (hbody : body.size ≤ 500) (n : Nat) (hn0 : 1 ≤ n) (hn : n ≤ 200) :
    Calls Try.prog 29 #[.pointer (some ⟨b, 0, none⟩), .int .i64 (c : Nat), .int .i64 i, .string body, .int .i64 (n : Nat)] w fun r w' => r = .returned (.bool true) ∧ ∃ o' sv' rv', FMem o' 1 w' b (m.withReq (W ++ [⟨c, i, 1, body⟩])) sv' rv' ∧ Fr 1 o w o' w' := by
  have hr := ht.rest c hc
  have kb1 : Hid (∀ w, Calls Try.prog 16 #[.int .i64 1, .int .i64 i, .string ⟨#[1]⟩, .int .i64 0] w fun r w' => r = .returned (.string (enc 1 i ⟨#[1]⟩ [])) ∧ Below w.heap.size w w') := fun w => by
    have := bytes_any 1 i ⟨#[1]⟩ 0 w (by omega) hi (by decide) (by omega)
    exact this
  have kb3 : Hid (∀ w, Calls Try.prog 16 #[.int .i64 5, .int .i64 i, .string ⟨#[]⟩, .int .i64 0] w fun r w' => r = .returned (.string (enc 5 i ⟨#[]⟩ [])) ∧ Below w.heap.size w w') := fun w => by
    have := bytes_any 5 i ⟨#[]⟩ 0 w (by omega) hi (by decide) (by omega)
    exact this
  have kb2 : Hid (∀ w (t : ByteArray) (p : Nat), t.size ≤ 200 → p ≤ 7 → Calls Try.prog 16 #[.int .i64 5, .int .i64 i, .string t, .int .i64 (p : Nat)] w fun r w' => r = .returned (.string (enc 5 i t (padL p))) ∧ Below w.heap.size w w') := fun w t p h1 h2 => bytes_any 5 i t p w (by omega) hi (by omega) h2
  have kf1 : Hid (∀ (o : Nat → Tag) (w : World) (sv : Nat → Value) (rv : Value), FMem o 1 w b (m.withReq W) sv rv → Calls Try.prog 25 #[.pointer (some ⟨b, 0, none⟩), .int .i64 (c : Nat), .string (enc 1 i ⟨#[1]⟩ [])] w fun r w' => r = .returned (.int .i64 0) ∧ ∃ o' sv' rv', FMem o' 1 w' b (m.withReq (W ++ [newReq c i])) sv' rv' ∧ Fr 1 o w o' w') := fun o w sv rv h =>
    feed_to ht hc W _ (by omega) hWb _ (by rw [enc_size]; decide) (feedBegin ht.calm hr hno hi hkeys) h
  have hbx : ∀ (x : Req), x.body.size ≤ 1000 → ∀ r ∈ W ++ [x], r.body.size ≤ 1000 := fun x hx r hr' => by
    rw [List.mem_append, List.mem_singleton] at hr'
    rcases hr' with e | e
    · exact hWb r e
    · rw [e]; exact hx
  have kf2 : Hid (∀ (o : Nat → Tag) (w : World) (sv : Nat → Value) (rv : Value) (D t : ByteArray) (p : Nat), 0 < t.size → t.size ≤ 200 → D.size + t.size ≤ 500 → p ≤ 7 → FMem o 1 w b (m.withReq (W ++ [⟨c, i, 0, D⟩])) sv rv → Calls Try.prog 25 #[.pointer (some ⟨b, 0, none⟩), .int .i64 (c : Nat), .string (enc 5 i t (padL p))] w fun r w' => r = .returned (.int .i64 0) ∧ ∃ o' sv' rv', FMem o' 1 w' b (m.withReq (W ++ [⟨c, i, 0, D ++ t⟩])) sv' rv' ∧ Fr 1 o w o' w') := fun o w sv rv D t p h1 h2 h3 h4 h =>
    feed_to ht hc _ _ (by simp; omega) (hbx _ (by show D.size ≤ 1000; omega)) _ (by rw [enc_size, padL_length]; omega) (feedIn ht.calm hr hno hi D t h1 h2 h3 (padL p) (by rw [padL_length]; exact h4)) h
  have kf3 : Hid (∀ (o : Nat → Tag) (w : World) (sv : Nat → Value) (rv : Value), FMem o 1 w b (m.withReq (W ++ [⟨c, i, 0, body⟩])) sv rv → Calls Try.prog 25 #[.pointer (some ⟨b, 0, none⟩), .int .i64 (c : Nat), .string (enc 5 i ⟨#[]⟩ [])] w fun r w' => r = .returned (.int .i64 0) ∧ ∃ o' sv' rv', FMem o' 1 w' b (m.withReq (W ++ [⟨c, i, 1, body⟩])) sv' rv' ∧ Fr 1 o w o' w') := fun o w sv rv h =>
    feed_to ht hc _ _ (by simp; omega) (hbx _ (by show body.size ≤ 1000; omega)) _ (by rw [enc_size]; decide) (feedEnd ht.calm hr hno hi body hroom) h
  clear ht hr hno hkeys hroom hbx hWb hW
  go_enter Try.func29, Try.ntmps29
  go_wp2_with fail
  refine (kb1.out _).mono ?_
  rintro e w1 ⟨rfl, hb1⟩
  have h1 := h.below hb1
  go_wp2_with fail
  refine (kf1.out _ _ _ _ h1).mono ?_
  rintro e w2 ⟨rfl, o2, sv2, rv2, h2, fr2⟩
  have frA := (Fr.of_below (q := 1) h.clean hb1).trans fr2
  have h2' : FMem o2 1 w2 b (m.withReq (W ++ [⟨c, i, 0, ByteArray.empty⟩])) sv2 rv2 := h2
  clear h h1 h2 fr2 hb1 kb1 kf1
  go_wp2_with fail
  go_loopg [3, 11, 12, 13] body.size (fun g t _ e _ w' => ∃ (T D : ByteArray) (o' : Nat → Tag) (sv' : Nat → Value) (rv' : Value), t = .string T ∧ e = .int .i64 0 ∧ T.size ≤ g ∧ D ++ T = body ∧ FMem o' 1 w' b (m.withReq (W ++ [⟨c, i, 0, D⟩])) sv' rv' ∧ Fr 1 o w o' w')
  case atStart => exact ⟨body, ByteArray.empty, o2, sv2, rv2, rfl, rfl, Nat.le_refl _, by simp, h2', frA⟩
  case round =>
    obtain ⟨T, D, o1, sv1, rv1, rfl, rfl, hTg, hDT, hm, hfr⟩ := hrel
    clear h2' frA
    have HDT : Hid _ := hDT
    have hsz : D.size + T.size = body.size := by rw [← hDT, ByteArray.size_append]
    clear hDT
    by_cases hT : T.size = 0
    · have hDb : D = body := by
        have : T = ByteArray.empty := by
          apply ByteArray.ext
          exact Array.eq_empty_of_size_eq_zero hT
        have e := HDT.out
        rw [this] at e
        simpa using e
      subst hDb
      have hn0' : ¬ ((0 : Int) < T.size) := by omega
      clear hT HDT kf2 kb2
      go_wp2_with fail
      refine (kb3.out _).mono ?_
      rintro e w3 ⟨rfl, hb3⟩
      have h3 := hm.below hb3
      go_wp2_with fail
      refine (kf3.out _ _ _ _ h3).mono ?_
      rintro e w4 ⟨rfl, o4, sv4, rv4, h4, fr4⟩
      go_wp2
      go_ret
      exact ⟨by simp, o4, sv4, rv4, h4, (hfr.below hb3).trans fr4⟩
    · have hTp : (0 : Int) < T.size := by omega
      obtain ⟨g', hg'⟩ : ∃ g', gk = g' + 1 := ⟨gk - 1, by omega⟩
      by_cases hbig : T.size < n
      · have hbI : (T.size : Int) < n := by omega
        have e1 : T.extract 0 T.size = T := by simp
        have e2 : T.extract T.size T.size = ByteArray.empty := by simp
        have hrem : ((T.size : Nat) : Int).tmod 3 = ((T.size % 3 : Nat) : Int) := by rw [Int.tmod_eq_emod_of_nonneg (by omega)]; omega
        have hnew : Hid ((D ++ T) ++ ByteArray.empty = body) := by
          show _ = _
          rw [← HDT.out]
          simp
        have kbk : Hid (∀ w, Calls Try.prog 16 #[.int .i64 5, .int .i64 i, .string T, .int .i64 ((T.size % 3 : Nat) : Int)] w fun r w' => r = .returned (.string (enc 5 i T (padL (T.size % 3)))) ∧ Below w.heap.size w w') := fun w => kb2.out w _ _ (by omega) (by omega)
        have kfk : Hid (∀ (o : Nat → Tag) (w : World) (sv : Nat → Value) (rv : Value), FMem o 1 w b (m.withReq (W ++ [⟨c, i, 0, D⟩])) sv rv → Calls Try.prog 25 #[.pointer (some ⟨b, 0, none⟩), .int .i64 (c : Nat), .string (enc 5 i T (padL (T.size % 3)))] w fun r w' => r = .returned (.int .i64 0) ∧ ∃ o' sv' rv', FMem o' 1 w' b (m.withReq (W ++ [⟨c, i, 0, D ++ T⟩])) sv' rv' ∧ Fr 1 o w o' w') := fun o w sv rv h => kf2.out o w sv rv D _ _ (by omega) (by omega) (by omega) (by omega) h
        clear kb2 kf2 kb3 kf3 HDT
        go_wp2_with fail
        refine (kbk.out _).mono ?_
        rintro e w3 ⟨rfl, hb3⟩
        have h3 := hm.below hb3
        go_wp2_with fail
        refine (kfk.out _ _ _ _ h3).mono ?_
        rintro e w4 ⟨rfl, o4, sv4, rv4, h4, fr4⟩
        go_wp2
        go_roundg g'
        case measure => omega
        case rel => exact ⟨ByteArray.empty, D ++ T, o4, sv4, rv4, rfl, rfl, Nat.zero_le _, hnew.out, h4, (hfr.below hb3).trans fr4⟩
      · have hbI : ¬ ((T.size : Int) < n) := by omega
        have hbI2 : (n : Int) ≤ T.size := by omega
        have hxs : (T.extract 0 n).size = n := by rw [ByteArray.size_extract]; omega
        have hxt : (T.extract n T.size).size = T.size - n := by rw [ByteArray.size_extract]; omega
        have hrem : ((n : Nat) : Int).tmod 3 = ((n % 3 : Nat) : Int) := by rw [Int.tmod_eq_emod_of_nonneg (by omega)]; omega
        have hnew : Hid ((D ++ (T.extract 0 n)) ++ (T.extract n T.size) = body) := by
          show _ = _
          rw [← HDT.out, ByteArray.append_assoc, extract_split T n (by omega)]
        have kbk : Hid (∀ w, Calls Try.prog 16 #[.int .i64 5, .int .i64 i, .string (T.extract 0 n), .int .i64 ((n % 3 : Nat) : Int)] w fun r w' => r = .returned (.string (enc 5 i (T.extract 0 n) (padL (n % 3)))) ∧ Below w.heap.size w w') := fun w => kb2.out w _ _ (by omega) (by omega)
        have kfk : Hid (∀ (o : Nat → Tag) (w : World) (sv : Nat → Value) (rv : Value), FMem o 1 w b (m.withReq (W ++ [⟨c, i, 0, D⟩])) sv rv → Calls Try.prog 25 #[.pointer (some ⟨b, 0, none⟩), .int .i64 (c : Nat), .string (enc 5 i (T.extract 0 n) (padL (n % 3)))] w fun r w' => r = .returned (.int .i64 0) ∧ ∃ o' sv' rv', FMem o' 1 w' b (m.withReq (W ++ [⟨c, i, 0, D ++ (T.extract 0 n)⟩])) sv' rv' ∧ Fr 1 o w o' w') := fun o w sv rv h => kf2.out o w sv rv D _ _ (by omega) (by omega) (by omega) (by omega) h
        clear kb2 kf2 kb3 kf3 HDT
        go_wp2_with fail
        refine (kbk.out _).mono ?_
        rintro e w3 ⟨rfl, hb3⟩
        have h3 := hm.below hb3
        go_wp2_with fail
        refine (kfk.out _ _ _ _ h3).mono ?_
        rintro e w4 ⟨rfl, o4, sv4, rv4, h4, fr4⟩
        go_wp2
        go_roundg g'
        case measure => omega
        case rel => exact ⟨(T.extract n T.size), D ++ (T.extract 0 n), o4, sv4, rv4, rfl, rfl, by omega, hnew.out, h4, (hfr.below hb3).trans fr4⟩
end
end Go.Proofs.Ytlafkpaljibonaa

namespace Go.Proofs.Ytlafkpaljibonaa
open Go.RowKit

/-- One worker: slot 0 is what is told, the others are Empty. -/
def oneSlot (s : PSlot) : Nat → PSlot := fun k => if k = 0 then s else newSlot 0
def mkW (c : Cfg) (con : Nat → PConn) (l : List Req) (s : PSlot) : PM := ⟨c, 0, con, l, oneSlot s⟩

theorem oneSlot_upd (s t : PSlot) : upd (oneSlot s) 0 t = oneSlot t := by
  funext k
  simp only [upd, oneSlot]
  split <;> simp_all

section
variable {c : Cfg} {con : Nat → PConn} {l : List Req} {s : PSlot}

theorem mkW_used (hs : s.st ≠ 0) : (mkW c con l s).usedTo 6 = 1 := by
  have h0 : (((mkW c con l s).slot 0).st == 0) = false := by simpa [mkW, oneSlot] using hs
  simp only [PM.usedTo, h0]
  simp [mkW, oneSlot, newSlot]

theorem mkW_calm (hd : c.dyn = false) (hc : c.ch = 1) (h0 : s.st ≠ 0) (h2 : s.st ≠ 2) : (mkW c con l s).calm := by
  refine ⟨hd, by rw [mkW_used h0]; exact Int.le_of_eq hc, ?_⟩
  intro k _
  simp only [mkW, oneSlot]
  split
  · exact h2
  · simp [newSlot]

/-- An Empty slot is started anew. -/
theorem settle_empty (hd : c.dyn = false) (hc : c.ch = 1) (h0 : s.st = 0) : (mkW c con l s).settle = mkW c con l (newSlot 1) := by
  have hu : (mkW c con l s).usedTo 6 = 0 := by
    simp [PM.usedTo, mkW, oneSlot, newSlot, h0]
  have h1 : startTo (mkW c con l s) 0 1 = (mkW c con l (newSlot 1), 1) := by
    have e : startTo (mkW c con l s) 0 1 = cond (decide ((0 : Int) < (mkW c con l s).set.ch) && ((mkW c con l s).slot 0).st == 0) ({ mkW c con l s with slot := upd (mkW c con l s).slot 0 (newSlot 1) }, (0 : Int) + 1) (mkW c con l s, 0) := rfl
    rw [e]
    have a1 : decide ((0 : Int) < (mkW c con l s).set.ch) = true := by rw [decide_eq_true]; show 0 < c.ch; omega
    have a2 : (((mkW c con l s).slot 0).st == 0) = true := by simp [mkW, oneSlot, h0]
    rw [a1, a2]
    simp only [Bool.and_self, cond_true]
    show (_, _) = (_, _)
    rw [show (mkW c con l s).slot = oneSlot s from rfl, oneSlot_upd]
    rfl
  have hk : ∀ k, 1 ≤ k → startTo (mkW c con l s) 0 k = (mkW c con l (newSlot 1), 1) := by
    intro k hk
    induction k with
    | zero => omega
    | succ k ih =>
      by_cases e : k = 0
      · subst e; exact h1
      · have e2 : startTo (mkW c con l s) 0 (k + 1) = cond (decide ((startTo (mkW c con l s) 0 k).2 < (mkW c con l s).set.ch) && ((startTo (mkW c con l s) 0 k).1.slot k).st == 0) ({ (startTo (mkW c con l s) 0 k).1 with slot := upd (startTo (mkW c con l s) 0 k).1.slot k (newSlot 1) }, (startTo (mkW c con l s) 0 k).2 + 1) (startTo (mkW c con l s) 0 k) := rfl
        rw [e2, ih (by omega)]
        have a1 : decide ((1 : Int) < (mkW c con l s).set.ch) = false := by rw [decide_eq_false]; show ¬ 1 < c.ch; omega
        simp only []
        rw [a1]
        rfl
  unfold PM.settle PM.startMissing PM.leaseWaiting
  rw [show (mkW c con l s).set.dyn = false from hd, hu]
  simp only [cond_false]
  rw [hk 6 (by omega)]
  refine leaseTo_none _ ?_ 6 (Nat.le_refl _)
  intro k _
  simp only [mkW, oneSlot]
  split <;> simp [newSlot]

/-- An Idle slot takes the first that waits. -/
theorem settle_lease (hd : c.dyn = false) (hc : c.ch = 1) (h2 : s.st = 2) (r : Req) (hr : r.stage = 1) :
    (mkW c con (r :: l) s).settle = mkW c con ({ r with stage := 2, body := ⟨#[]⟩ } :: l) ⟨3, s.old, wrap64 (s.served + 1), 0, r.conn, r.id, r.body⟩ := by
  have hu := mkW_used (c := c) (con := con) (l := r :: l) (s := s) (by omega)
  have hfw : (mkW c con (r :: l) s).fw = some 0 := by
    show cond (r.stage == 1) (some 0) _ = _
    rw [hr]; rfl
  have h1 : (mkW c con (r :: l) s).leaseTo 1 = mkW c con ({ r with stage := 2, body := ⟨#[]⟩ } :: l) ⟨3, s.old, wrap64 (s.served + 1), 0, r.conn, r.id, r.body⟩ := by
    show (mkW c con (r :: l) s).leaseAt 0 = _
    unfold PM.leaseAt
    rw [hfw]
    simp only []
    have a2 : (((mkW c con (r :: l) s).slot 0).st == 2) = true := by simp [mkW, oneSlot, h2]
    rw [a2]
    simp only [cond_true, PM.lease]
    have e1 : (mkW c con (r :: l) s).slot = oneSlot s := rfl
    have e2 : (mkW c con (r :: l) s).req = r :: l := rfl
    rw [e1, e2, oneSlot_upd]
    rfl
  have hk : ∀ k, 1 ≤ k → k ≤ 6 → (mkW c con (r :: l) s).leaseTo k = mkW c con ({ r with stage := 2, body := ⟨#[]⟩ } :: l) ⟨3, s.old, wrap64 (s.served + 1), 0, r.conn, r.id, r.body⟩ := by
    intro k hk hk6
    induction k with
    | zero => omega
    | succ k ih =>
      by_cases e : k = 0
      · subst e; exact h1
      · show ((mkW c con (r :: l) s).leaseTo k).leaseAt k = _
        rw [ih (by omega) (by omega)]
        unfold PM.leaseAt
        have a2 : (((mkW c con ({ r with stage := 2, body := ⟨#[]⟩ } :: l) ⟨3, s.old, wrap64 (s.served + 1), 0, r.conn, r.id, r.body⟩).slot k).st == 2) = false := by simp [mkW, oneSlot, e, newSlot]
        rw [a2]
        cases (mkW c con ({ r with stage := 2, body := ⟨#[]⟩ } :: l) ⟨3, s.old, wrap64 (s.served + 1), 0, r.conn, r.id, r.body⟩).fw <;> rfl
  unfold PM.settle PM.startMissing PM.leaseWaiting
  rw [show (mkW c con (r :: l) s).set.dyn = false from hd]
  simp only [cond_false]
  rw [hu, startTo_full (mkW c con (r :: l) s) (by show c.ch ≤ 1; omega)]
  exact hk 6 (by omega) (by omega)

/-- An Idle slot stays so where nothing waits. -/
theorem settle_idle (hd : c.dyn = false) (hc : c.ch = 1) (h2 : s.st = 2) : (mkW c con [] s).settle = mkW c con [] s := by
  have hu := mkW_used (c := c) (con := con) (l := []) (s := s) (by omega)
  have hk : ∀ k, k ≤ 6 → (mkW c con [] s).leaseTo k = mkW c con [] s := by
    intro k hk
    induction k with
    | zero => rfl
    | succ k ih =>
      show ((mkW c con [] s).leaseTo k).leaseAt k = _
      rw [ih (by omega)]
      rfl
  unfold PM.settle PM.startMissing PM.leaseWaiting
  rw [show (mkW c con [] s).set.dyn = false from hd]
  simp only [cond_false]
  rw [hu, startTo_full (mkW c con [] s) (by show c.ch ≤ 1; omega)]
  exact hk 6 (by omega)

end
end Go.Proofs.Ytlafkpaljibonaa

namespace Go.Proofs.Ytlafkpaljibonaa
open Go.RowKit

def sendC (con : Nat → PConn) (k : Nat) (b : ByteArray) : Nat → PConn := upd con k { con k with sent := (con k).sent ++ nums b }

theorem nums_append (a b : ByteArray) : nums (a ++ b) = nums a ++ nums b := by
  simp [nums]

theorem sendC_two (con : Nat → PConn) (k : Nat) (a b : ByteArray) : sendC (sendC con k a) k b = sendC con k (a ++ b) := by
  funext j
  simp only [sendC, upd]
  split
  · rename_i e; subst e
    simp [nums_append, List.append_assoc]
  · rfl

theorem sendC_nil (con : Nat → PConn) (k : Nat) : sendC con k ByteArray.empty = con := by
  funext j
  simp only [sendC, upd]
  split
  · rename_i e; subst e
    simp [nums]
  · rfl

/-- What is sent for an output. -/
def outsB (i : Int) : Nat → ByteArray → ByteArray
  | 0, _ => ByteArray.empty
  | f + 1, t => if t.size = 0 then ByteArray.empty else encB 6 i (t.extract 0 (min t.size 200)) ++ outsB i f (t.extract (min t.size 200) t.size)

section
variable {c : Cfg} {con : Nat → PConn} {l : List Req} {s : PSlot}

theorem mkW_outN (k : Nat) (i : Int) : ∀ (f : Nat) (con : Nat → PConn) (t : ByteArray), PM.outN k i f (mkW c con l s) t = mkW c (sendC con k (outsB i f t)) l s
  | 0, con, t => by
    show mkW c con l s = mkW c (sendC con k ByteArray.empty) l s
    rw [sendC_nil]
  | f + 1, con, t => by
    unfold PM.outN outsB
    split
    · rw [sendC_nil]
    · have e : (mkW c con l s).sendB k (encB 6 i (t.extract 0 (min t.size 200))) = mkW c (sendC con k (encB 6 i (t.extract 0 (min t.size 200)))) l s := rfl
      rw [e, mkW_outN k i f, sendC_two]

theorem mkW_outputs (hd : c.dyn = false) (hc : c.ch = 1) (h3 : s.st = 3) (k : Nat) (i : Int) (hk : s.conn = k) (hi : s.id = i) (t : ByteArray) :
    (mkW c con l s).outputs 0 t = mkW c (sendC con k (outsB i t.size t)) l s := by
  unfold PM.outputs PM.sendOut
  have e0 : (mkW c con l s).slot 0 = s := rfl
  have e1 : (s.conn != -1) = true := by rw [hk]; simp
  rw [e0, e1, hk, hi]
  simp only [cond_true, Int.toNat_natCast]
  rw [mkW_outN]
  exact (mkW_calm hd hc (by omega) (by omega)).settle

theorem mkW_died (hd : c.dyn = false) (hc : c.ch = 1) (hk : s.conn = -1) : (mkW c con l s).died 0 = mkW c con l (newSlot 1) := by
  unfold PM.died PM.endKeyOf PM.empties
  have e0 : (mkW c con l s).slot 0 = s := rfl
  have e1 : (s.conn != -1) = false := by rw [hk]; rfl
  rw [e0, e1]
  simp only [cond_false]
  have e : ({ mkW c con l s with slot := upd (mkW c con l s).slot 0 (newSlot 0) } : PM) = mkW c con l (newSlot 0) := by
    show PM.mk _ _ _ _ _ = PM.mk _ _ _ _ _
    rw [show (mkW c con l s).slot = oneSlot s from rfl, oneSlot_upd]
    rfl
  rw [e]
  exact settle_empty hd hc rfl

theorem mkW_becomes (st : Int) : (mkW c con l s).becomesAt 0 st = mkW c con l (s.becomes st) := by
  show PM.mk _ _ _ _ _ = PM.mk _ _ _ _ _
  rw [show (mkW c con l s).slot = oneSlot s from rfl, oneSlot_upd]
  rfl

theorem mkW_spawned (hd : c.dyn = false) (hc : c.ch = 1) (ho : s.old = false) (r : Req) (hr : r.stage = 1) :
    (mkW c con (r :: l) s).spawned 0 = mkW c con ({ r with stage := 2, body := ⟨#[]⟩ } :: l) ⟨3, false, wrap64 (s.served + 1), 0, r.conn, r.id, r.body⟩ := by
  unfold PM.spawned
  have e0 : ((mkW c con (r :: l) s).slot 0).old = false := ho
  rw [e0]
  simp only [cond_false]
  rw [mkW_becomes, settle_lease hd hc rfl r hr]
  simp only [PSlot.becomes, ho]

theorem mkW_endKey (k : Nat) (i st : Int) (r : Req) (hr : isKey k i r = true) (hl : ∀ x ∈ l, isKey k i x = false) (hk : s.conn = k) (hi : s.id = i) :
    (mkW c con (r :: l) s).endKey k i st = mkW c (sendC con k (encB 3 i (strOfNums [st]))) l s.forget := by
  unfold PM.endKey PM.drop
  have hso : ((mkW c con (r :: l) s).sendB k (encB 3 i (strOfNums [st]))).slotOf k i = some 0 := by
    unfold PM.slotOf PM.slotFrom PM.slotHas
    have e : ((mkW c con (r :: l) s).sendB k (encB 3 i (strOfNums [st]))).slot 0 = s := rfl
    rw [e, hk, hi]
    simp
  have hw : withoutL ((mkW c con (r :: l) s).sendB k (encB 3 i (strOfNums [st]))).req k i = l := by
    show (List.filter _ (r :: l)) = l
    rw [List.filter_cons_of_neg (by simp [hr]), List.filter_eq_self.2 (by intro x hx; simp [hl x hx])]
  rw [hso, hw]
  show PM.mk _ _ _ _ _ = PM.mk _ _ _ _ _
  rw [show (({ (mkW c con (r :: l) s).sendB k (encB 3 i (strOfNums [st])) with req := l } : PM)).slot = oneSlot s from rfl, oneSlot_upd]
  rfl

/-- The worker has served enough: it is killed. -/
theorem mkW_finished_go (hd : c.dyn = false) (hc : c.ch = 1) (k : Nat) (i : Int) (r : Req) (hr : isKey k i r = true) (hl : ∀ x ∈ l, isKey k i x = false) (hk : s.conn = k) (hi : s.id = i) (ho : s.old = false) (hm : 0 < c.mr ∧ c.mr ≤ s.served) :
    (mkW c con (r :: l) s).finished 0 = mkW c (sendC con k (encB 3 i (strOfNums [0]))) l (s.forget.becomes 4) := by
  unfold PM.finished PM.endKeyOf
  have e0 : (mkW c con (r :: l) s).slot 0 = s := rfl
  have e1 : (s.conn != -1) = true := by rw [hk]; simp
  rw [e0, e1, hk, hi]
  simp only [cond_true, Int.toNat_natCast]
  rw [mkW_endKey k i 0 r hr hl hk hi]
  unfold PM.retires PM.mustGo
  have g : (((mkW c (sendC con k (encB 3 i (strOfNums [0]))) l s.forget).slot 0).old || (decide (0 < (mkW c (sendC con k (encB 3 i (strOfNums [0]))) l s.forget).set.mr) && decide ((mkW c (sendC con k (encB 3 i (strOfNums [0]))) l s.forget).set.mr ≤ ((mkW c (sendC con k (encB 3 i (strOfNums [0]))) l s.forget).slot 0).served))) = true := by
    have a1 : decide (0 < c.mr) = true := decide_eq_true hm.1
    have a2 : decide (c.mr ≤ s.served) = true := decide_eq_true hm.2
    show (s.old || (decide (0 < c.mr) && decide (c.mr ≤ s.served))) = true
    rw [a1, a2, ho]; rfl
  rw [g]
  simp only [cond_true]
  unfold PM.kill
  rw [mkW_becomes]
  exact (mkW_calm hd hc (by simp [PSlot.becomes]) (by simp [PSlot.becomes])).settle

/-- It goes on: the next that waits is leased to it. -/
theorem mkW_finished_next (hd : c.dyn = false) (hc : c.ch = 1) (k : Nat) (i : Int) (r r2 : Req) (hr : isKey k i r = true) (hl : ∀ x ∈ r2 :: l, isKey k i x = false) (hk : s.conn = k) (hi : s.id = i) (ho : s.old = false) (hm : ¬ (0 < c.mr ∧ c.mr ≤ s.served)) (hr2 : r2.stage = 1) :
    (mkW c con (r :: r2 :: l) s).finished 0 = mkW c (sendC con k (encB 3 i (strOfNums [0]))) ({ r2 with stage := 2, body := ⟨#[]⟩ } :: l) ⟨3, false, wrap64 (s.served + 1), 0, r2.conn, r2.id, r2.body⟩ := by
  unfold PM.finished PM.endKeyOf
  have e0 : (mkW c con (r :: r2 :: l) s).slot 0 = s := rfl
  have e1 : (s.conn != -1) = true := by rw [hk]; simp
  rw [e0, e1, hk, hi]
  simp only [cond_true, Int.toNat_natCast]
  rw [mkW_endKey k i 0 r hr hl hk hi]
  unfold PM.retires PM.mustGo
  have g : (((mkW c (sendC con k (encB 3 i (strOfNums [0]))) (r2 :: l) s.forget).slot 0).old || (decide (0 < (mkW c (sendC con k (encB 3 i (strOfNums [0]))) (r2 :: l) s.forget).set.mr) && decide ((mkW c (sendC con k (encB 3 i (strOfNums [0]))) (r2 :: l) s.forget).set.mr ≤ ((mkW c (sendC con k (encB 3 i (strOfNums [0]))) (r2 :: l) s.forget).slot 0).served))) = false := by
    show (s.old || (decide (0 < c.mr) && decide (c.mr ≤ s.served))) = false
    rw [ho]
    cases h1 : decide (0 < c.mr)
    · rfl
    · cases h2 : decide (c.mr ≤ s.served)
      · rfl
      · exact absurd ⟨of_decide_eq_true h1, of_decide_eq_true h2⟩ hm
  rw [g]
  simp only [cond_false]
  rw [mkW_becomes, settle_lease hd hc rfl r2 hr2]
  simp only [PSlot.becomes, PSlot.forget, ho]

/-- It goes on, and nothing waits. -/
theorem mkW_finished_last (hd : c.dyn = false) (hc : c.ch = 1) (k : Nat) (i : Int) (r : Req) (hr : isKey k i r = true) (hk : s.conn = k) (hi : s.id = i) (ho : s.old = false) (hm : ¬ (0 < c.mr ∧ c.mr ≤ s.served)) :
    (mkW c con [r] s).finished 0 = mkW c (sendC con k (encB 3 i (strOfNums [0]))) [] (s.forget.becomes 2) := by
  unfold PM.finished PM.endKeyOf
  have e0 : (mkW c con [r] s).slot 0 = s := rfl
  have e1 : (s.conn != -1) = true := by rw [hk]; simp
  rw [e0, e1, hk, hi]
  simp only [cond_true, Int.toNat_natCast]
  rw [mkW_endKey k i 0 r hr (by simp) hk hi]
  unfold PM.retires PM.mustGo
  have g : (((mkW c (sendC con k (encB 3 i (strOfNums [0]))) [] s.forget).slot 0).old || (decide (0 < (mkW c (sendC con k (encB 3 i (strOfNums [0]))) [] s.forget).set.mr) && decide ((mkW c (sendC con k (encB 3 i (strOfNums [0]))) [] s.forget).set.mr ≤ ((mkW c (sendC con k (encB 3 i (strOfNums [0]))) [] s.forget).slot 0).served))) = false := by
    show (s.old || (decide (0 < c.mr) && decide (c.mr ≤ s.served))) = false
    rw [ho]
    cases h1 : decide (0 < c.mr)
    · rfl
    · cases h2 : decide (c.mr ≤ s.served)
      · rfl
      · exact absurd ⟨of_decide_eq_true h1, of_decide_eq_true h2⟩ hm
  rw [g]
  simp only [cond_false]
  rw [mkW_becomes]
  exact settle_idle hd hc rfl

end
end Go.Proofs.Ytlafkpaljibonaa

namespace Go.Proofs.Ytlafkpaljibonaa
open Go.RowKit

/-- The record with which an owner writes over a list that came out. -/
def X : Rec := (-1, 0, ⟨#[]⟩)
def xs (k : Nat) : List Value := rowOf (List.replicate k X)
def xat (j : Nat) : Value := if j % 3 = 0 then .int .i64 (-1) else if j % 3 = 1 then .int .i64 0 else .string ⟨#[]⟩

theorem xs_length (k : Nat) : (xs k).length = k * 3 := by simp [xs, rowOf_length]

theorem xs_succ (k : Nat) : xs (k + 1) = .int .i64 (-1) :: .int .i64 0 :: .string ⟨#[]⟩ :: xs k := by
  simp [xs, List.replicate_succ, rowOf, rcells, X]

theorem xs_get (k j : Nat) (h : j < k * 3) : (xs k)[j]? = some (xat j) := by
  induction k generalizing j with
  | zero => omega
  | succ k ih =>
    rw [xs_succ]
    match j with
    | 0 => rfl
    | 1 => rfl
    | 2 => rfl
    | j + 3 =>
      have := ih j (by omega)
      have e : xat (j + 3) = xat j := by simp [xat]
      rw [e]
      simpa using this

theorem xs_add (a b : Nat) : xs (a + b) = xs a ++ xs b := by
  simp only [xs]; rw [← List.replicate_append_replicate, rowOf_append]

theorem xs_ext {l : List Value} {k : Nat} (hl : l.length = k * 3) (h : ∀ j, j < k * 3 → l[j]? = some (xat j)) : l = xs k := by
  apply List.ext_getElem?
  intro j
  by_cases hj : j < k * 3
  · rw [h j hj, xs_get k j hj]
  · rw [List.getElem?_eq_none (by omega), List.getElem?_eq_none (by rw [xs_length]; omega)]

theorem xs_one {k : Nat} : ∀ u ∈ xs k, u.oneCell' = true := by
  intro u hu
  simp only [xs, rowOf, List.mem_flatMap] at hu
  obtain ⟨r, _, hr⟩ := hu
  exact one_rec r u hr

def ownX (w : World) (base : Nat) (v : Value) (n : Nat) : Prop := w.ownsRow base 23 3 v n (xs n)

set_option maxRecDepth 100000 in
theorem append_X (w : World) (ty : TypeId) (base : Nat) (v : Value) (n : Nat) (hown : ownX w base v n) (ad : Addr) (m c : Nat) (hnews : ∀ j u, (xs m)[j]? = some u → w.cell? (ad.add j) = some u)
    (hm : 0 < m) (hb : n + m ≤ 1000000000000) (hbase : base ≤ w.heap.size) :
    ∃ g cap w', (Builtin.append_ #[32, 32] ty #[v, .slice (some ad) m c]).run Try.prog w = .ok (.slice (some ⟨g, 0, none⟩) (n + m) cap) w' ∧
      ownX w' base (.slice (some ⟨g, 0, none⟩) (n + m) cap) (n + m) ∧ w.grownBy w' v.ownBlock ∧ (∀ base' u k, ownX w base' u k → ownX w' base' u k) ∧ g < w'.heap.size := by
  obtain ⟨i0, hi, hz0, hz1, hz2⟩ := info_parts info23
  obtain ⟨g, cap, w', hr, h2, h3, h4, h5⟩ := run_append_lies (P := Try.prog) w 32 ty base 23 i0 (.agg #[.int .i64 0, .int .i64 0, .string ⟨#[]⟩]) 3 32 Try.underlying32 hi hz0 hz1 hz2 rfl (by omega) v n (xs n) hown ad m c (xs m) (xs_length m) hnews xs_one hm (by unfold maxLen; omega) (by omega) hbase _ rfl
  refine ⟨g, cap, w', hr, ?_, h3, ?_, h5⟩
  · unfold ownX; rw [xs_add]; exact h2
  · intro base' u k hu
    rcases hown.2 with ⟨rfl, rfl⟩ | ⟨g0, cap0, cur, rfl, hbg, hg, hnc, hcm, hcs, htake⟩
    · exact World.ownsRow.kept hu h3 (by cases hv : u.ownBlock <;> simp [Value.ownBlock])
    · by_cases hroom : n + m ≤ cap0
      · have hfit : n * i0.size + (xs m).length ≤ cur.size := by rw [hz1, hcs, xs_length, ← Nat.add_mul]; exact Nat.mul_le_mul_right _ hroom
        have hr' := run_append_room (P := Try.prog) w 32 ty 23 i0 Try.underlying32 hi g0 n cap0 cur hg ad m c (xs m) (by rw [hz1]; exact xs_length m) hnews xs_one hroom hfit
        rw [hr] at hr'
        simp only [Result.ok.injEq] at hr'
        obtain ⟨-, hw'⟩ := hr'
        rw [hz1] at hw'
        rcases hu.2 with ⟨rfl, rfl⟩ | ⟨g1, cap1, cur1, rfl, hbg1, hg1, hnc1, hcm1, hcs1, htake1⟩
        · exact ⟨by simp [xs_length], .inl ⟨rfl, rfl⟩⟩
        · by_cases hgg : g1 = g0
          · subst hgg
            rw [hg] at hg1
            simp only [Option.some.injEq, Obj.cells.injEq, and_true] at hg1
            obtain ⟨rfl, -⟩ := hg1
            have hsz : cur.toList.length = cap0 * 3 := by simpa using hcs
            refine ⟨xs_length k, .inr ⟨g1, cap1, _, rfl, hbg1, (by rw [hw']; exact setRow_heap w g1 cur _ _ _ hg), hnc1, hcm1, ?_, ?_⟩⟩
            · simp only [List.size_toArray, List.length_append, List.length_take, List.length_drop, xs_length, hsz]
              have : (n + m) * 3 ≤ cap0 * 3 := Nat.mul_le_mul_right _ hroom
              have : cap0 * 3 = cap1 * 3 := by rw [← hcs, ← hcs1]
              omega
            · have hk3 : k * 3 ≤ cap0 * 3 := by
                have : cap0 * 3 = cap1 * 3 := by rw [← hcs, ← hcs1]
                have : k * 3 ≤ cap1 * 3 := Nat.mul_le_mul_right _ hnc1
                omega
              have hnm : (n + m) * 3 ≤ cap0 * 3 := Nat.mul_le_mul_right _ hroom
              refine xs_ext ?_ ?_
              · simp only [List.length_take, List.length_append, List.length_drop, xs_length, hsz]
                omega
              · intro j hj
                rw [List.getElem?_take, if_pos hj]
                by_cases j1 : j < n * 3
                · rw [List.append_assoc, List.getElem?_append_left (by simp only [List.length_take, hsz]; omega), htake, xs_get n j j1]
                · by_cases j2 : j < n * 3 + m * 3
                  · rw [List.getElem?_append_left (by simp only [List.length_append, List.length_take, hsz, xs_length]; omega), List.getElem?_append_right (by simp only [List.length_take, hsz]; omega)]
                    rw [show (List.take (n * 3) cur.toList).length = n * 3 from by simp only [List.length_take, hsz]; omega, xs_get m _ (by omega)]
                    congr 1
                    unfold xat
                    rw [show (j - n * 3) % 3 = j % 3 from by omega]
                  · rw [List.getElem?_append_right (by simp only [List.length_append, List.length_take, hsz, xs_length]; omega), List.getElem?_drop]
                    rw [show (List.take (n * 3) cur.toList ++ xs m).length = n * 3 + m * 3 from by simp only [List.length_append, List.length_take, hsz, xs_length]; omega]
                    rw [show n * 3 + (xs m).length + (j - (n * 3 + m * 3)) = j from by rw [xs_length]; omega]
                    have := xs_get k j hj
                    rw [← htake1, List.getElem?_take, if_pos hj] at this
                    exact this
          · exact World.ownsRow.kept hu h3 (by simp [Value.ownBlock, hgg])
      · have holds : ∀ j u, (xs n)[j]? = some u → w.cell? ((⟨g0, 0, none⟩ : Addr).add j) = some u := World.ownsRow.cells hown (g := g0) rfl
        have hr' := run_append_grow (P := Try.prog) w 32 ty 23 i0 (.agg #[.int .i64 0, .int .i64 0, .string ⟨#[]⟩]) Try.underlying32 hi hz0 ⟨g0, 0, none⟩ n cap0 (xs n) (by rw [hz1]; exact xs_length n) holds ad m c (xs m) (by rw [hz1]; exact xs_length m) hnews (by omega) (by omega) (by rw [hz2]; exact growslice_fits (by omega) (by omega))
        rw [hr] at hr'
        simp only [Result.ok.injEq] at hr'
        rw [hr'.2]
        exact World.ownsRow.alloc hu _

end Go.Proofs.Ytlafkpaljibonaa
