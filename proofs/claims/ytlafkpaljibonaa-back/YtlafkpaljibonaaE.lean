import Derived.Test.YtlafkpaljibonaaSpec
import Derived.Deep.AppendLies
namespace Go.Proofs.Ytlafkpaljibonaa
open Go.RowKit

theorem info23 : (Try.prog.info? 23).map (fun i => (i.zero, i.size, i.bytes)) = some (some (.agg #[.int .i64 0, .int .i64 0, .string ⟨#[]⟩]), 3, 32) := by kernel_rfl

theorem news_rec (W : World) (g : Nat) (hg : W.heap.size = g) (r : Rec) (T : TypeId) : ∀ j u, (rcells r)[j]? = some u → (W.alloc (.cells #[.int .i64 r.1, .int .i64 r.2.1, .string r.2.2] T)).cell? ((⟨g, 0, none⟩ : Addr).add j) = some u := by
  subst hg
  exact World.news_of_block (heap_alloc_new W _)

theorem one_rec (r : Rec) : ∀ u ∈ rcells r, u.oneCell' = true := by
  intro u hu
  simp only [rcells, List.mem_cons, List.not_mem_nil, or_false] at hu
  rcases hu with rfl | rfl | rfl <;> rfl

set_option maxRecDepth 100000 in
set_option maxHeartbeats 1000000 in
theorem decode_any (s : ByteArray) (w : World) (hmax : (s.size : Int) ≤ 1000000000000) :
    Calls Try.prog 48 #[.string s] w fun r w' => ∃ v, r = .returned (.tuple #[v, .int .i64 (decN s), .int .i64 (decE s)]) ∧ w'.ownsRow w.heap.size 23 3 v (decL s).length (rowOf (decL s)) ∧ Below w.heap.size w w' := by
  obtain ⟨i0, hi, hz0, hz1, hz2⟩ := info_parts info23
  go_enter Try.func48, Try.ntmps48
  go_wp2
  go_loopw [5, 6] (fun v i w' => ∃ (acc : List Rec) (k f : Nat), i = .int .i64 k ∧ k ≤ s.size ∧ acc.length * 8 ≤ k ∧ s.size - k < f ∧ decL s = acc ++ (dec f s k).1 ∧ (decN s, decE s) = (dec f s k).2 ∧ w'.ownsRow w.heap.size 23 3 v acc.length (rowOf acc) ∧ Below w.heap.size w w') (fun _ i _ => s.size - (intOf i).toNat)
  case atStart => exact ⟨[], 0, s.size + 1, rfl, Nat.zero_le _, by simp, by omega, rfl, rfl, World.ownsRow_nil _ _ _ _, Below.refl _ _⟩
  case round =>
    obtain ⟨acc, k, f, rfl, hk, hlen, hf, hL, hN, hown, hbel⟩ := hrel
    have HL : Hid _ := hL
    have HN : Hid _ := hN
    clear hL hN
    have hbase := hbel.size
    by_cases hlt : k < s.size
    · have hls := left_size s k
      rcases code_cases (left s k) with hc | hc | hc
      · have hv : firstV (s.extract k s.size) = .tuple #[nilRec, .int .i64 0, .int .i64 0] := by simp [firstV, show code (s.extract k s.size) = 0 from hc]
        have HC : Hid _ := hc
        clear hc hls
        unfold nilRec at hv
        go_wp2_with fail
        refine (first_any (s.extract k s.size) _ (by rw [ByteArray.size_extract]; omega)).mono ?_
        rintro e w1 ⟨rfl, hb⟩
        rw [hv]
        clear hv
        go_wp2
        go_ret3
        have hg : wr.grownBy w1 none := ⟨hb.os, hb.tape, hb.output, hb.size, fun b hb' _ => hb.block b hb'⟩
        have hd := dec_zero (f := f) HC.out
        have hL := HL.out
        have hN := HN.out
        rw [hd] at hL hN
        simp only [List.append_nil, Prod.mk.injEq] at hL hN
        refine ⟨u5, by rw [hN.1, hN.2]; rfl, ?_, ?_⟩
        · rw [hL]
          exact (hown.kept hg (by cases hv : u5.ownBlock <;> simp)).alloc _
        · exact (hbel.trans (hb.mono hbase)).alloc (by have := hb.size; omega) _
      · have hv : firstV (s.extract k s.size) = .tuple #[nilRec, .int .i64 0, .int .i64 7] := by simp [firstV, show code (s.extract k s.size) = 1 from hc]
        have HC : Hid _ := hc
        clear hc hls
        unfold nilRec at hv
        go_wp2_with fail
        refine (first_any (s.extract k s.size) _ (by rw [ByteArray.size_extract]; omega)).mono ?_
        rintro e w1 ⟨rfl, hb⟩
        rw [hv]
        clear hv
        go_wp2
        go_ret3
        have hg : wr.grownBy w1 none := ⟨hb.os, hb.tape, hb.output, hb.size, fun b hb' _ => hb.block b hb'⟩
        obtain ⟨f', rfl⟩ : ∃ f', f = f' + 1 := ⟨f - 1, by omega⟩
        have hd := dec_one (f := f') HC.out
        have hL := HL.out
        have hN := HN.out
        rw [hd] at hL hN
        simp only [List.append_nil, Prod.mk.injEq] at hL hN
        refine ⟨u5, by rw [hN.1, hN.2]; rfl, ?_, ?_⟩
        · rw [hL]
          exact (hown.kept hg (by cases hv : u5.ownBlock <;> simp)).alloc _
        · exact (hbel.trans (hb.mono hbase)).alloc (by have := hb.size; omega) _
      · have hv : firstV (s.extract k s.size) = .tuple #[.agg #[.int .i64 (recT (left s k)).1, .int .i64 (recT (left s k)).2.1, .string (recT (left s k)).2.2], .int .i64 (sizeT (left s k)), .int .i64 0] := by simp [firstV, show code (s.extract k s.size) = 2 from hc, left]
        obtain ⟨q1, q2, -, -, -⟩ := code_two hc
        rw [hls] at q2
        have HC : Hid _ := hc
        clear hc hls
        have hne : ((sizeT (left s k) : Int) == 0) = false := by simp; omega
        generalize hr : recT (left s k) = r at hv
        have HR : Hid _ := hr
        generalize hsz : sizeT (left s k) = z at hv hne q1 q2
        have HZ : Hid _ := hsz
        clear hr hsz
        go_wp2_with fail
        refine (first_any (s.extract k s.size) _ (by rw [ByteArray.size_extract]; omega)).mono ?_
        rintro e w1 ⟨rfl, hb⟩
        rw [hv]
        clear hv
        have hg : wr.grownBy w1 none := ⟨hb.os, hb.tape, hb.output, hb.size, fun b hb' _ => hb.block b hb'⟩
        have hown1 := hown.kept hg (by cases hv : u5.ownBlock <;> simp)
        have hsz1 := hb.size
        have hbel1 : Below w.heap.size w w1 := hbel.trans (hb.mono hbase)
        clear hg hown hbel hb
        go_wp2_with (at_builtin; refine wpList_append_own _ rfl _ _ 32 rfl w.heap.size 23 i0 (.agg #[.int .i64 0, .int .i64 0, .string ⟨#[]⟩]) 3 32 Try.underlying32 hi hz0 hz1 hz2 rfl (by omega) u5 acc.length (rowOf acc) rfl ?hown ⟨w1.heap.size + 1, 0, none⟩ 1 1 (rcells r) rfl rfl ?hnews ?h1 ?h63 ?hbytes ?hbase ?_)
        case hown => exact (hown1.alloc _).alloc _
        case hnews => exact news_rec _ _ (by simp) r _
        case h1 => exact one_rec r
        case h63 => unfold maxLen; omega
        case hbytes => omega
        case hbase => simp; omega
        intro v' w2 hown2 hgrow _
        go_wp2
        obtain ⟨f', rfl⟩ : ∃ f', f = f' + 1 := ⟨f - 1, by omega⟩
        have hd := dec_two (f := f') HC.out
        rw [HR.out, HZ.out] at hd
        have hL := HL.out
        have hN := HN.out
        rw [hd] at hL hN
        refine ⟨⟨acc ++ [r], k + z, f', by go_num, by omega, by simp; omega, by omega, by simpa using hL, hN, ?_, ?_⟩, by simp [intOf]; omega⟩
        · rw [rowOf_append, rowOf_one]; simpa using hown2
        · refine ((hbel1.alloc (by omega) _).alloc (by simp; omega) _).grown hgrow (by simp; omega) ?_
          intro b hbk
          exact (hown1.lt b hbk).1
    · go_wp2
      go_ret3
      have hd := dec_zero (f := f) (code_short (s := s) (i := k) (by omega))
      have hL := HL.out
      have hN := HN.out
      rw [hd] at hL hN
      simp only [List.append_nil, Prod.mk.injEq] at hL hN
      refine ⟨u5, by rw [hN.1, hN.2]; rfl, ?_, hbel⟩
      rw [hL]; exact hown

set_option maxRecDepth 100000 in
set_option maxHeartbeats 400000 in
theorem fDecode_any (s : ByteArray) (w : World) (hmax : (s.size : Int) ≤ 1000000000000) :
    Calls Try.prog 17 #[.string s] w fun r w' => ∃ v, r = .returned (.tuple #[v, .int .i64 (decN s), .int .i64 (decE s)]) ∧ w'.ownsRow w.heap.size 23 3 v (decL s).length (rowOf (decL s)) ∧ Below w.heap.size w w' := by
  go_enter Try.func17, Try.ntmps17
  go_wp2_with fail
  refine (decode_any s _ hmax).mono ?_
  rintro e w' ⟨v, rfl, hown, hb⟩
  go_wp2
  go_ret3
  exact ⟨v, rfl, hown, hb⟩

end Go.Proofs.Ytlafkpaljibonaa
