import Derived.Test.YtlafkpaljibonaaK1
import Derived.Lib.Strings
namespace Go.Proofs.Ytlafkpaljibonaa
open Go.RowKit

def encL (r : Rec) (p : List Int) : List Int := [1, r.1, r.2.1 / 256, r.2.1 % 256, 0, (r.2.2.size : Int), (p.length : Int), 0] ++ nums r.2.2 ++ p

theorem enc_encL (k i : Int) (c : ByteArray) (p : List Int) : enc k i c p = strOfNums (encL (k, i, c) p) := rfl

theorem encL_length (r : Rec) (p : List Int) : (encL r p).length = 8 + r.2.2.size + p.length := by simp [encL, nums_length]; omega

theorem str_extract (l : List Int) (a b : Nat) : (strOfNums l).extract a b = strOfNums ((l.drop a).take (b - a)) := by
  apply ByteArray.ext
  apply Array.ext'
  simp [strOfNums, ByteArray.data_extract, List.extract_eq_take_drop, List.map_take, List.map_drop]

theorem str_left (l : List Int) (i : Nat) : left (strOfNums l) i = strOfNums (l.drop i) := by
  unfold left
  rw [str_extract, strOfNums_size]
  congr 1
  rw [List.take_of_length_le (by simp)]

/-- Numbers that are bytes. -/
def Byts (l : List Int) : Prop := ∀ x ∈ l, 0 ≤ x ∧ x ≤ 255

theorem byt_str (l : List Int) (j : Nat) (x : Int) (h : l[j]? = some x) (hx : 0 ≤ x ∧ x ≤ 255) : byt (strOfNums l) j = x := by
  unfold byt strOfNums
  have : ((l.map fun n => UInt8.ofNat n.toNat).toArray).getD j 0 = UInt8.ofNat x.toNat := by
    simp [Array.getD_eq_getD_getElem?, List.getElem?_map, h]
  show (((l.map fun n => UInt8.ofNat n.toNat).toArray.getD j 0).toNat : Int) = x
  rw [this]
  simp
  omega

structure Good (r : Rec) (p : List Int) : Prop where
  al : allowedB r.1 r.2.1 r.2.2.size = true
  pl : p.length ≤ 7

/-- What the head of a record says, when its eight bytes stand there. -/
theorem head_enc (r : Rec) (p l : List Int) (hg : Good r p) (hl : l.take 8 = [1, r.1, r.2.1 / 256, r.2.1 % 256, 0, (r.2.2.size : Int), (p.length : Int), 0]) :
    hKind (strOfNums l) = r.1 ∧ hId (strOfNums l) = r.2.1 ∧ hLen (strOfNums l) = r.2.2.size ∧ hPad (strOfNums l) = p.length ∧ badT (strOfNums l) = false := by
  obtain ⟨hk, k1, k6, i1, i2, c1⟩ := allowedB_bd hg.al
  have hp := hg.pl
  have get : ∀ j x, ([1, r.1, r.2.1 / 256, r.2.1 % 256, 0, (r.2.2.size : Int), (p.length : Int), 0] : List Int)[j]? = some x → j < 8 → l[j]? = some x := by
    intro j x hx hj
    rw [← hl, List.getElem?_take, if_pos hj] at hx
    exact hx
  have g0 := byt_str l 0 _ (get 0 _ rfl (by omega)) (by omega)
  have g1 := byt_str l 1 _ (get 1 _ rfl (by omega)) (by omega)
  have g2 := byt_str l 2 _ (get 2 _ rfl (by omega)) (by omega)
  have g3 := byt_str l 3 _ (get 3 _ rfl (by omega)) (by omega)
  have g4 := byt_str l 4 _ (get 4 _ rfl (by omega)) (by omega)
  have g5 := byt_str l 5 _ (get 5 _ rfl (by omega)) (by omega)
  have g6 := byt_str l 6 _ (get 6 _ rfl (by omega)) (by omega)
  have g7 := byt_str l 7 _ (get 7 _ rfl (by omega)) (by omega)
  have e1 : hKind (strOfNums l) = r.1 := g1
  have e2 : hId (strOfNums l) = r.2.1 := by unfold hId; rw [g2, g3]; omega
  have e3 : hLen (strOfNums l) = r.2.2.size := by unfold hLen; rw [g4, g5]; omega
  have e4 : hPad (strOfNums l) = p.length := g6
  refine ⟨e1, e2, e3, e4, ?_⟩
  unfold badT badB
  rw [e1, e2, e3, e4, g0, g7, hg.al]
  simp
  omega

theorem take8_enc (r : Rec) (p rest : List Int) : (encL r p ++ rest).take 8 = [1, r.1, r.2.1 / 256, r.2.1 % 256, 0, (r.2.2.size : Int), (p.length : Int), 0] := by
  simp [encL]

theorem step_enc (r : Rec) (p rest : List Int) (hg : Good r p) :
    code (strOfNums (encL r p ++ rest)) = 2 ∧ recT (strOfNums (encL r p ++ rest)) = r ∧ sizeT (strOfNums (encL r p ++ rest)) = (encL r p).length := by
  obtain ⟨e1, e2, e3, e4, hb⟩ := head_enc r p (encL r p ++ rest) hg (take8_enc r p rest)
  have hlen := encL_length r p
  have hsz : (strOfNums (encL r p ++ rest)).size = (encL r p).length + rest.length := by rw [strOfNums_size, List.length_append]
  refine ⟨?_, ?_, ?_⟩
  · unfold code
    rw [if_neg (by rw [hsz]; omega), hb, if_neg (by simp), if_neg (by rw [hsz, e3, e4]; omega)]
  · unfold recT
    rw [e1, e2, e3, str_extract]
    have : List.take ((8 + (r.2.2.size : Int)).toNat - 8) (List.drop 8 (encL r p ++ rest)) = nums r.2.2 := by
      have e : (8 + (r.2.2.size : Int)).toNat - 8 = (nums r.2.2).length := by rw [nums_length]; omega
      rw [e]
      have d : List.drop 8 (encL r p ++ rest) = nums r.2.2 ++ (p ++ rest) := by simp [encL]
      rw [d, List.take_left]
    rw [this, strOfNums_nums]
  · unfold sizeT
    rw [e3, e4, hlen]; omega

theorem code_tail (r : Rec) (p : List Int) (hg : Good r p) (m : Nat) (hm : m < (encL r p).length) : code (strOfNums ((encL r p).take m)) = 0 := by
  have hlen := encL_length r p
  have hsz : (strOfNums ((encL r p).take m)).size = m := by rw [strOfNums_size, List.length_take]; omega
  unfold code
  by_cases h8 : m < 8
  · rw [if_pos (by rw [hsz]; omega)]
  · obtain ⟨e1, e2, e3, e4, hb⟩ := head_enc r p ((encL r p).take m) hg (by
      have := take8_enc r p []
      rw [List.append_nil] at this
      rw [List.take_take, Nat.min_eq_left (by omega)]; exact this)
    rw [if_neg (by rw [hsz]; omega), hb, if_neg (by simp), if_pos (by rw [hsz, e3, e4]; omega)]

def encAll (rs : List (Rec × List Int)) : List Int := rs.flatMap fun x => encL x.1 x.2

theorem dec_encs (rs : List (Rec × List Int)) (hg : ∀ x ∈ rs, Good x.1 x.2) (pre t : List Int) (f : Nat) :
    dec (rs.length + f) (strOfNums (pre ++ encAll rs ++ t)) pre.length =
      (rs.map (·.1) ++ (dec f (strOfNums (pre ++ encAll rs ++ t)) (pre ++ encAll rs).length).1, (dec f (strOfNums (pre ++ encAll rs ++ t)) (pre ++ encAll rs).length).2) := by
  induction rs generalizing pre with
  | nil => simp [encAll]
  | cons x rs ih =>
    have e : pre ++ encAll (x :: rs) ++ t = pre ++ encL x.1 x.2 ++ encAll rs ++ t := by simp [encAll]
    have hl : left (strOfNums (pre ++ encAll (x :: rs) ++ t)) pre.length = strOfNums (encL x.1 x.2 ++ (encAll rs ++ t)) := by
      rw [str_left]; congr 1; simp [encAll]
    obtain ⟨h1, h2, h3⟩ := step_enc x.1 x.2 (encAll rs ++ t) (hg x (by simp))
    rw [← hl] at h1 h2 h3
    rw [List.length_cons, show rs.length + 1 + f = (rs.length + f) + 1 from by omega, dec_two h1, h2, h3]
    have := ih (fun y hy => hg y (by simp [hy])) (pre ++ encL x.1 x.2)
    rw [List.length_append] at this
    rw [e, this]
    have e2 : pre ++ encAll (x :: rs) = pre ++ encL x.1 x.2 ++ encAll rs := by simp [encAll]
    rw [e2]
    simp

theorem encAll_len (rs : List (Rec × List Int)) : rs.length ≤ (encAll rs).length := by
  induction rs with
  | nil => simp
  | cons x rs ih => simp only [encAll, List.flatMap_cons, List.length_append, List.length_cons] at ih ⊢; rw [encL_length]; omega

theorem dec_all (rs : List (Rec × List Int)) (hg : ∀ x ∈ rs, Good x.1 x.2) (t : List Int) (e : Int) (he : ∀ f, 0 < f → ∀ s i, left s i = strOfNums t → dec f s i = ([], i, e)) :
    decL (strOfNums (encAll rs ++ t)) = rs.map (·.1) ∧ decN (strOfNums (encAll rs ++ t)) = (encAll rs).length ∧ decE (strOfNums (encAll rs ++ t)) = e := by
  have hlen := encAll_len rs
  obtain ⟨f, hf⟩ : ∃ f, (strOfNums (encAll rs ++ t)).size + 1 = rs.length + (f + 1) := ⟨(strOfNums (encAll rs ++ t)).size - rs.length, by rw [strOfNums_size, List.length_append]; omega⟩
  have h := dec_encs rs hg [] t (f + 1)
  simp only [List.nil_append, List.length_nil] at h
  have hl : left (strOfNums (encAll rs ++ t)) (encAll rs).length = strOfNums t := by rw [str_left]; simp
  rw [he (f + 1) (by omega) _ _ hl] at h
  unfold decL decN decE
  rw [hf, h]
  simp

theorem code_wrong (j : Int) : code (wrongAt j) = 1 := by
  unfold wrongAt
  repeat' split
  all_goals decide +kernel

theorem wrong_str (j : Int) : wrongAt j = strOfNums (nums (wrongAt j)) := (strOfNums_nums _).symm

end Go.Proofs.Ytlafkpaljibonaa
