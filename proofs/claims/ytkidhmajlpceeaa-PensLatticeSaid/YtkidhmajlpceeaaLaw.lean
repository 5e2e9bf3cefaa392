import Derived.Test.YtkidhmajlpceeaaMem
import Derived.Test.YtkidhmajlpceeaaFor
import Derived.Test.YtkidhmajlpceeaaAdd
import Derived.Test.YtkidhmajlpceeaaMvs
namespace Go.Proofs.Ytkidhmajlpceeaa
open Go.RowKit
set_option maxHeartbeats 1000000 in
theorem SameInts_t (n : Nat) (A B : Option Addr) (c d : Nat) (Z Y : Nat → Int) (w : World) (h1 : IntsIn A n Z w.heap.size w) (h2 : IntsIn B n Y w.heap.size w) (he : ∀ i, i < n → Z i = Y i) :
    Calls Try.prog 29 #[.slice A n c, .slice B n d] w fun e w' => e = .returned (.bool true) ∧ Below w.heap.size w w' := by
  have H1 := Lib.hid h1
  have H2 := Lib.hid h2
  have HE := Lib.hid he
  have hn := h1.1
  clear h1 h2 he
  go_enter Try.func29, Try.ntmps29
  go_wp2_with fail
  go_loopw [5] (fun i wr => ∃ k : Nat, k ≤ n ∧ i = .int .i64 k ∧ ∃ q, wr = w.drewN q) (fun i _ => n - (intOf i).toNat)
  case atStart => exact ⟨0, Nat.zero_le _, rfl, 0, rfl⟩
  case round =>
    obtain ⟨k, hk, rfl, q, rfl⟩ := hrel
    have hk0 : (0 : Int) ≤ (k : Int) := by omega
    by_cases hlt : k < n
    · obtain ⟨g, rfl, g1, c1⟩ := H1.out.2 k hlt
      obtain ⟨g', rfl, g1', c1'⟩ := H2.out.2 k hlt
      have hki : (k : Int) < (n : Int) := by omega
      rw [← HE.out k hlt] at c1'
      generalize Z k = z at c1 c1'
      go_wp2_with fail
      go_quiet (fail)
      go_wp2_with fail
      go_roundw
      case rel => exact ⟨k + 1, by omega, by go_num, _, rfl⟩
      case measure => simp [intOf]; omega
    · have hki : (n : Int) ≤ (k : Int) := by omega
      go_wp2_with fail
      go_ret
      exact ⟨rfl, below_drewN (Below.refl _ _) q⟩
set_option maxHeartbeats 1000000 in
theorem SameSpans_t (n g g2 cap cap2 : Nat) (S R : Nat → Int × Int) (w : World) (hn : n ≤ 1000) (h1 : SpR g n S w) (h2 : SpR g2 n R w) (he : ∀ i, i < n → S i = R i) :
    Calls Try.prog 43 #[.slice (some ⟨g, 0, none⟩) n cap, .slice (some ⟨g2, 0, none⟩) n cap2] w fun e w' => e = .returned (.bool true) ∧ Below w.heap.size w w' := by
  have H1 := Lib.hid h1
  have H2 := Lib.hid h2
  have HE := Lib.hid he
  clear h1 h2 he
  go_enter Try.func43, Try.ntmps43
  go_wp2_with fail
  go_loopw [5] (fun i wr => ∃ k : Nat, k ≤ n ∧ i = .int .i64 k ∧ ∃ q, wr = w.drewN q) (fun i _ => n - (intOf i).toNat)
  case atStart => exact ⟨0, Nat.zero_le _, rfl, 0, rfl⟩
  case round =>
    obtain ⟨k, hk, rfl, q, rfl⟩ := hrel
    have hk0 : (0 : Int) ≤ (k : Int) := by omega
    by_cases hlt : k < n
    · have a0 := H1.out.c0 k hlt
      have a1 := H1.out.c1 k hlt
      have b0 := H2.out.c0 k hlt
      have b1 := H2.out.c1 k hlt
      have hki : (k : Int) < (n : Int) := by omega
      rw [← HE.out k hlt] at b0 b1
      generalize (S k).1 = x at a0 b0
      generalize (S k).2 = y at a1 b1
      go_wp2_with fail
      go_quiet (fail)
      go_wp2_with fail
      go_roundw
      case rel => exact ⟨k + 1, by omega, by go_num, _, rfl⟩
      case measure => simp [intOf]; omega
    · have hki : (n : Int) ≤ (k : Int) := by omega
      go_wp2_with fail
      go_ret
      exact ⟨rfl, below_drewN (Below.refl _ _) q⟩
abbrev P0 : Pn := ⟨2, -1, 1, 5⟩
theorem P0_ok : P0.Ok := ⟨by decide, by decide, by decide, by decide, by decide⟩
set_option maxHeartbeats 400000 in
theorem sample_any (w : World) :
    Calls Try.prog 64 #[] w fun e w' => e = .returned P0.v ∧ Below w.heap.size w w' := by
  go_enter Try.func64, Try.ntmps64
  go_wp2_with fail
  refine bodyPost_ret (v := P0.v) (by simp [results, Try.results64, go_sem]) rfl ⟨rfl, ?_⟩
  first | exact box4 _ _ _ _ _ | exact box2 _ _ _ | exact box1 _ _
theorem few_any (A : Option Addr) (n c : Nat) (w : World) :
    Calls Try.prog 20 #[.slice A n c] w fun e w' => e = .returned (.bool (decide ((n : Int) ≤ 500))) ∧ w = w' := by
  go_enter Try.func20, Try.ntmps20
  go_wp2_with fail
  go_ret
  exact ⟨rfl, rfl⟩
theorem lit_ints (w : World) (l : List Int) (hl : l.length ≤ 1000) : IntsIn (some ⟨w.heap.size, 0, none⟩) l.length (asZ l) (w.alloc (.cells (intsZ l).toArray 3)).heap.size (w.alloc (.cells (intsZ l).toArray 3)) :=
  ints_of (by simp) hl fun i z h => by
    have : (intsZ l)[i]? = some (.int .i64 z) := by simp [intsZ, h]
    have hh := World.alloc_heap_new w (.cells (intsZ l).toArray 3)
    simp only [World.cell?, Option.isSome_none, Bool.false_eq_true, if_false]
    rw [hh]
    simpa using this
/-- a row that was made, and one just laid, are the same numbers -/
theorem same_lit {w w' : World} {v : Value} {l : List Int} {B : Nat} (h : w.ownsRow B 3 1 v l.length (intsZ l)) (hl : l.length ≤ 1000) (hb : Below w.heap.size w w') :
    Calls Try.prog 29 #[v, .slice (some ⟨w'.heap.size, 0, none⟩) l.length l.length] (w'.alloc (.cells (intsZ l).toArray 3)) fun e w2 => e = .returned (.bool true) ∧ Below w'.heap.size w' w2 := by
  obtain ⟨A, c, rfl, k1⟩ := row_ints (own_keep (own_keep h hb) (box1 w' (.cells (intsZ l).toArray 3))) hl
  exact (SameInts_t l.length A _ c _ (asZ l) (asZ l) _ k1 (lit_ints w' l hl) (fun _ _ => rfl)).mono fun _ _ ⟨he, hw⟩ => ⟨he, (box1 _ _).trans (hw.mono (box1 _ _).size)⟩
theorem lvs_lit (l : List Int) (h : ∀ z ∈ l, -50000 ≤ z ∧ z ≤ 50000) : Lvs (asZ l) l.length := fun i hi => by
  rw [asZ_at hi]; exact h _ (List.getElem_mem hi)
theorem ls_lit (l : List Int) (h1 : 1 ≤ l.length ∧ l.length ≤ 401) (h : ∀ z ∈ l, -50000 ≤ z ∧ z ≤ 50000) : LsOk (asZ l) l.length := ⟨h1.1, h1.2, lvs_lit l h⟩
end Go.Proofs.Ytkidhmajlpceeaa
