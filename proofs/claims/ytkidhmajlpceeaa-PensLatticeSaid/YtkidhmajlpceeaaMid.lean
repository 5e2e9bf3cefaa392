import Derived.Test.YtkidhmajlpceeaaSeq
import Derived.Test.YtkidhmajlpceeaaShl
import Derived.Sort.OwnSortedInts
namespace Go.Proofs.Ytkidhmajlpceeaa
open Go.RowKit Go.Sort
abbrev sortZ (L : List Int) : List Int := L.mergeSort fun x y => decide (x ≤ y)
set_option maxHeartbeats 1000000 in
theorem Sorted_any (L : List Int) (h0 : L ≠ []) (hl : L.length ≤ 1000) (g : Nat) (lb : Array Value) (w : World) (eg : ∀ args w, (callFunc g args).run Try.prog w = .ok (.enter g args) w)
    (hseq : Yields Fence.wide 7 Try.prog g lb encI (Below w.heap.size) L w) :
    Calls Try.prog 104 #[.func (.func g) #[] lb] w fun e w' => ∃ v, e = .returned v ∧ RowZ w (sortZ L) v w' := by
  have K := Lib.hid (Collect_any L hl g lb w eg hseq)
  clear hseq eg
  go_enter Try.func104, Try.ntmps104
  go_wp2_with fail
  refine K.out.mono ?_
  rintro e w1 ⟨v, rfl, hB, hown⟩
  obtain ⟨hx0, hx | ⟨gb, cap, cur, rfl, hbase, hgb, r1, r2, r3, r4⟩⟩ := hown
  · exact absurd (List.eq_nil_of_length_eq_zero hx.2) h0
  · have hH : Holds (Value.int .i64) w1 gb 0 L.toArray := holds_of_blockI hgb (by simpa [intsZ] using r4)
    have hgl : gb < w1.heap.size := (Array.getElem?_eq_some_iff.1 hgb).1
    have cS := Lib.hid (AnyM.slices_Sort_int Try.sort114 gb 0 cap L w1 hH hgl (by omega))
    have HG := Lib.hid hgb
    have HB := Lib.hid hB
    clear hgb hH r4 hB hx0
    go_wp2_with fail
    refine cS.out.mono ?_
    rintro e w2 ⟨rfl, nn, os, rfl⟩
    go_wp2_with fail
    go_ret
    refine ⟨_, rfl, HB.out.grown (grownBy_sortedI _) HB.out.size (fun j hj => by cases hj; exact hbase), ?_⟩
    have := ownsRow_sortedI (n := nn) (os := os) (ss := L) (ts := sortZ L) (by simp) hbase HG.out r1 r2 r3
    simpa [intsZ] using this
/-- the middle one of three numbers, the first of which is not greater than the last -/
def lz (B s r : Int) : Int := max (r - B) (min (r + B) s)
theorem sort3 (a s b : Int) (h : a ≤ b) : (sortZ [a, s, b])[1]? = some (max a (min b s)) := by
  rcases Int.lt_or_le s a with h1 | h1
  · rw [show max a (min b s) = a by omega]
    have e1 : ¬ a ≤ s := by omega
    have e2 : s ≤ b := by omega
    simp [sortZ, List.mergeSort, List.MergeSort.Internal.splitInTwo, e1, e2, h]
  · rcases Int.lt_or_le b s with h2 | h2
    · rw [show max a (min b s) = b by omega]
      have e2 : ¬ s ≤ b := by omega
      simp [sortZ, List.mergeSort, List.MergeSort.Internal.splitInTwo, h1, e2, h]
    · rw [show max a (min b s) = s by omega]
      simp [sortZ, List.mergeSort, List.MergeSort.Internal.splitInTwo, h1, h2, h]
set_option maxHeartbeats 1000000 in
theorem middle_any (A : Option Addr) (c : Nat) (a s b : Int) (w : World) (h : a ≤ b) (hin : IntsIn A 3 (asZ [a, s, b]) w.heap.size w) :
    Calls Try.prog 85 #[.slice A 3 c] w fun e w' => e = .returned (.int .i64 (max a (min b s))) ∧ Below w.heap.size w w' := by
  have HIN := Lib.hid hin
  have H3 := Lib.hid (sort3 a s b h)
  clear hin h
  go_enter Try.func85, Try.ntmps85
  go_wp2_with fail
  refine (Values_any A 3 c w).mono ?_
  rintro e w1 ⟨rfl, rfl⟩
  have hy := values_yields A 3 c w.heap.size (w.heap.size + 1) 7 (asZ [a, s, b]) (w.alloc (.cells #[.slice A 3 c] 28)) ((HIN.out.up (box1 _ _) (Nat.le_refl _)).more (by omega)) (by go_simp) (by omega) (by simp) (by omega)
  have hu : upTo (asZ [a, s, b]) 3 = [a, s, b] := rfl
  rw [hu] at hy
  have K := Lib.hid (Sorted_any [a, s, b] (by simp) (by simp) _ _ (w.alloc (.cells #[.slice A 3 c] 28)) eg_val (by rw [World.size_alloc]; exact hy))
  clear hy hu
  go_wp2_with fail
  refine K.out.mono ?_
  rintro e w2 ⟨v, rfl, hB, hown⟩
  have hl3 : (sortZ [a, s, b]).length = 3 := by simp [sortZ]
  obtain ⟨A2, c2, rfl, hr⟩ := row_ints hown (by omega)
  obtain ⟨g, rfl, hg, hc⟩ := hr.2 1 (by omega)
  have hz : asZ (sortZ [a, s, b]) 1 = max a (min b s) := by
    have := H3.out
    simp only [asZ, List.getD, this, Option.getD_some]
  rw [hz, add_pos g 1 (by omega)] at hc
  have HB := Lib.hid hB
  rw [hl3]
  clear hr hown hz hB hl3
  go_wp2_with fail
  go_ret
  exact ⟨rfl, (box1 _ _).trans (HB.out.mono (by simp))⟩
end Go.Proofs.Ytkidhmajlpceeaa
