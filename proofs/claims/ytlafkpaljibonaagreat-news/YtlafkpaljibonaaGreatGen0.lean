import Derived.Test.YtlafkpaljibonaaGreatP6
namespace Go.Proofs.YtlafkpaljibonaaGreat
open Go.RowKit

theorem own_mono {w : World} {base base' : Nat} {e : TypeId} {size : Nat} {v : Value} {n : Nat} {l : List Value} (h : w.ownsRow base e size v n l) (hb : base' ≤ base) : w.ownsRow base' e size v n l := by
  obtain ⟨h1, h2⟩ := h
  refine ⟨h1, ?_⟩
  rcases h2 with h2 | ⟨g, cap, cur, hv, hg, r⟩
  · exact .inl h2
  · exact .inr ⟨g, cap, cur, hv, Nat.le_trans hb hg, r⟩

theorem own_keepAt {w w' : World} {base base' : Nat} {e : TypeId} {size n : Nat} {v : Value} {xs : List Value} (h : w.ownsRow base e size v n xs) (hb : ∀ g, v.ownBlock = some g → w'.heap[g]? = w.heap[g]?) (hbb : base' ≤ base) : w'.ownsRow base' e size v n xs := by
  refine own_mono ⟨h.1, ?_⟩ hbb
  rcases h.2 with h2 | ⟨g, cap, cur, rfl, hg, hh, r⟩
  · exact .inl h2
  · exact .inr ⟨g, cap, cur, rfl, hg, by rw [hb g rfl]; exact hh, r⟩

theorem own_slice {w : World} {base : Nat} {e : TypeId} {size n : Nat} {v : Value} {xs : List Value} (h : w.ownsRow base e size v n xs) :
    ∃ ao c, v = .slice ao n c ∧ (n : Int) ≤ 9223372036854775807 ∧ (0 < n → ∃ g, ao = some ⟨g, 0, none⟩ ∧ base ≤ g ∧ g < w.heap.size) := by
  rcases h.2 with ⟨rfl, rfl⟩ | ⟨g, cap, cur, rfl, hb, hg, hn, hc, hs, ht⟩
  · exact ⟨_, _, rfl, by omega, by omega⟩
  · exact ⟨_, _, rfl, by simp only [maxLen] at hc; omega, fun _ => ⟨g, rfl, hb, (Array.getElem?_eq_some_iff.1 hg).1⟩⟩

theorem keyCells_get (W : List (Int × Int)) (j : Nat) (h : j < W.length) : (keyCells W)[j * 2]? = some (.int .i64 W[j].1) ∧ (keyCells W)[j * 2 + 1]? = some (.int .i64 W[j].2) := by
  induction W generalizing j with
  | nil => simp at h
  | cons r l ih =>
    have e : keyCells (r :: l) = .int .i64 r.1 :: .int .i64 r.2 :: keyCells l := by simp [keyCells]
    cases j with
    | zero => simp [e]
    | succ j =>
      have := ih j (by simpa using h)
      rw [e, show (j + 1) * 2 = j * 2 + 1 + 1 from by omega]
      simpa using this

theorem ba_nil (a : ByteArray) : a ++ ⟨#[]⟩ = a := by
  have : (⟨#[]⟩ : ByteArray) = ByteArray.empty := rfl
  rw [this, ByteArray.append_empty]

theorem nil_ba (a : ByteArray) : ⟨#[]⟩ ++ a = a := by
  have : (⟨#[]⟩ : ByteArray) = ByteArray.empty := rfl
  rw [this, ByteArray.empty_append]

theorem encB_size (k i : Int) (c : ByteArray) : (encB k i c).size ≤ 208 := by
  unfold encB
  split
  · rename_i h
    obtain ⟨-, -, -, -, -, h5⟩ := allowedB_bd h
    simp only [enc, strOfNums_size, List.length_append, nums_length, List.length_cons, List.length_nil]
    omega
  · decide

theorem below_dN {B : Nat} {w w' : World} {m : Nat} (h : Below B w w') : Below B w (w'.drewN m) := ⟨h.os, h.tape, h.output, h.size, h.block⟩

end Go.Proofs.YtlafkpaljibonaaGreat
