import Derived.Test.YtmeljcbefnojfaaCws
namespace Go.Proofs.Ytmeljcbefnojfaa
open Go.RowKit
def gapF (x : Cls) (i : Nat) : Bool := decide (x.L i = 0)
def croF (x : Cls) (i : Nat) : Bool := decide (1 < x.L i)
set_option maxHeartbeats 400000 in
theorem Gaps_yes (A : Option Addr) (n c : Nat) (x : Cls) (w : World) (hin : ClsIn A n x w.heap.size w) (hG : InkOk x n) :
    Calls Try.prog 23 #[.agg #[.slice A n c]] w (IPost w (selL (gapF x) n) 0) := by
  have KC : Hid (∀ w, ClsIn A n x w.heap.size w → _) := Lib.hid fun w h => cwG_yes A n c x w h hG
  have H1 := Lib.hid ((hin.up (box1 w (.cells #[.slice A n c] 29)) (Nat.le_refl _)).more (box1 w (.cells #[.slice A n c] 29)).size)
  clear hin hG
  go_enter Try.func23, Try.ntmps23
  go_wp2_with fail
  refine (KC.out _ H1.out).mono ?_
  rintro e w1 ⟨v, rfl, hb, hown⟩
  have hB1 : Below w.heap.size w w1 := (box1 w _).trans (hb.mono (by simp only [World.size_alloc]; omega))
  have hO := own_mono hown (C := w.heap.size) (by simp only [World.size_alloc]; omega)
  clear hb hown
  go_wp2_with fail
  go_ret2
  exact ⟨_, rfl, hB1, hO⟩
set_option maxHeartbeats 400000 in
theorem Gaps_no (A : Option Addr) (n c : Nat) (x : Cls) (w : World) (hin : ClsIn A n x w.heap.size w) (hG : ¬ InkOk x n) :
    Calls Try.prog 23 #[.agg #[.slice A n c]] w (IPost w [] 12) := by
  have KC : Hid (∀ w, ClsIn A n x w.heap.size w → _) := Lib.hid fun w h => cwG_no A n c x w h hG
  have H1 := Lib.hid ((hin.up (box1 w (.cells #[.slice A n c] 29)) (Nat.le_refl _)).more (box1 w (.cells #[.slice A n c] 29)).size)
  clear hin hG
  go_enter Try.func23, Try.ntmps23
  go_wp2_with fail
  refine (KC.out _ H1.out).mono ?_
  rintro e w1 ⟨v, rfl, hb, hown⟩
  have hB1 : Below w.heap.size w w1 := (box1 w _).trans (hb.mono (by simp only [World.size_alloc]; omega))
  have hO := own_mono hown (C := w.heap.size) (by simp only [World.size_alloc]; omega)
  clear hb hown
  go_wp2_with fail
  go_ret2
  exact ⟨_, rfl, hB1, hO⟩
set_option maxHeartbeats 400000 in
theorem Crossings_yes (A : Option Addr) (n c : Nat) (x : Cls) (w : World) (hin : ClsIn A n x w.heap.size w) (hG : InkOk x n) :
    Calls Try.prog 25 #[.agg #[.slice A n c]] w (IPost w (selL (croF x) n) 0) := by
  have KC : Hid (∀ w, ClsIn A n x w.heap.size w → _) := Lib.hid fun w h => cwC_yes A n c x w h hG
  have H1 := Lib.hid ((hin.up (box1 w (.cells #[.slice A n c] 29)) (Nat.le_refl _)).more (box1 w (.cells #[.slice A n c] 29)).size)
  clear hin hG
  go_enter Try.func25, Try.ntmps25
  go_wp2_with fail
  refine (KC.out _ H1.out).mono ?_
  rintro e w1 ⟨v, rfl, hb, hown⟩
  have hB1 : Below w.heap.size w w1 := (box1 w _).trans (hb.mono (by simp only [World.size_alloc]; omega))
  have hO := own_mono hown (C := w.heap.size) (by simp only [World.size_alloc]; omega)
  clear hb hown
  go_wp2_with fail
  go_ret2
  exact ⟨_, rfl, hB1, hO⟩
set_option maxHeartbeats 400000 in
theorem Crossings_no (A : Option Addr) (n c : Nat) (x : Cls) (w : World) (hin : ClsIn A n x w.heap.size w) (hG : ¬ InkOk x n) :
    Calls Try.prog 25 #[.agg #[.slice A n c]] w (IPost w [] 12) := by
  have KC : Hid (∀ w, ClsIn A n x w.heap.size w → _) := Lib.hid fun w h => cwC_no A n c x w h hG
  have H1 := Lib.hid ((hin.up (box1 w (.cells #[.slice A n c] 29)) (Nat.le_refl _)).more (box1 w (.cells #[.slice A n c] 29)).size)
  clear hin hG
  go_enter Try.func25, Try.ntmps25
  go_wp2_with fail
  refine (KC.out _ H1.out).mono ?_
  rintro e w1 ⟨v, rfl, hb, hown⟩
  have hB1 : Below w.heap.size w w1 := (box1 w _).trans (hb.mono (by simp only [World.size_alloc]; omega))
  have hO := own_mono hown (C := w.heap.size) (by simp only [World.size_alloc]; omega)
  clear hb hown
  go_wp2_with fail
  go_ret2
  exact ⟨_, rfl, hB1, hO⟩
set_option maxHeartbeats 400000 in
theorem RGaps_yes (A : Option Addr) (n c : Nat) (x : Cls) (w : World) (hin : ClsIn A n x w.heap.size w) (hG : InkOk x n) :
    Calls Try.prog 24 #[.agg #[.slice A n c]] w (IPost w (selL (gapF x) n) 0) := by
  have KC : Hid (∀ w, ClsIn A n x w.heap.size w → _) := Lib.hid fun w h => szd_yes A n c x 0 0 (gapF x) (fun i _ => by unfold gapF; simp) w h hG
  have H1 := Lib.hid ((hin.up (box1 w (.cells #[.slice A n c] 29)) (Nat.le_refl _)).more (box1 w (.cells #[.slice A n c] 29)).size)
  clear hin hG
  go_enter Try.func24, Try.ntmps24
  go_wp2_with fail
  refine (KC.out _ H1.out).mono ?_
  rintro e w1 ⟨v, rfl, hb, hown⟩
  have hB1 : Below w.heap.size w w1 := (box1 w _).trans (hb.mono (by simp only [World.size_alloc]; omega))
  have hO := own_mono hown (C := w.heap.size) (by simp only [World.size_alloc]; omega)
  clear hb hown
  go_wp2_with fail
  go_ret2
  exact ⟨_, rfl, hB1, hO⟩
set_option maxHeartbeats 400000 in
theorem RGaps_no (A : Option Addr) (n c : Nat) (x : Cls) (w : World) (hin : ClsIn A n x w.heap.size w) (hG : ¬ InkOk x n) :
    Calls Try.prog 24 #[.agg #[.slice A n c]] w (IPost w [] 12) := by
  have KC : Hid (∀ w, ClsIn A n x w.heap.size w → _) := Lib.hid fun w h => szd_no A n c x 0 0 w h hG
  have H1 := Lib.hid ((hin.up (box1 w (.cells #[.slice A n c] 29)) (Nat.le_refl _)).more (box1 w (.cells #[.slice A n c] 29)).size)
  clear hin hG
  go_enter Try.func24, Try.ntmps24
  go_wp2_with fail
  refine (KC.out _ H1.out).mono ?_
  rintro e w1 ⟨v, rfl, hb, hown⟩
  have hB1 : Below w.heap.size w w1 := (box1 w _).trans (hb.mono (by simp only [World.size_alloc]; omega))
  have hO := own_mono hown (C := w.heap.size) (by simp only [World.size_alloc]; omega)
  clear hb hown
  go_wp2_with fail
  go_ret2
  exact ⟨_, rfl, hB1, hO⟩
set_option maxHeartbeats 400000 in
theorem RCrossings_yes (A : Option Addr) (n c : Nat) (x : Cls) (w : World) (hin : ClsIn A n x w.heap.size w) (hG : InkOk x n) :
    Calls Try.prog 26 #[.agg #[.slice A n c]] w (IPost w (selL (croF x) n) 0) := by
  have KC : Hid (∀ w, ClsIn A n x w.heap.size w → _) := Lib.hid fun w h => szd_yes A n c x 2 8 (croF x) (fun i hi => by have := (hG.2.2 i hi).1; unfold croF; simp; omega) w h hG
  have H1 := Lib.hid ((hin.up (box1 w (.cells #[.slice A n c] 29)) (Nat.le_refl _)).more (box1 w (.cells #[.slice A n c] 29)).size)
  clear hin hG
  go_enter Try.func26, Try.ntmps26
  go_wp2_with fail
  refine (KC.out _ H1.out).mono ?_
  rintro e w1 ⟨v, rfl, hb, hown⟩
  have hB1 : Below w.heap.size w w1 := (box1 w _).trans (hb.mono (by simp only [World.size_alloc]; omega))
  have hO := own_mono hown (C := w.heap.size) (by simp only [World.size_alloc]; omega)
  clear hb hown
  go_wp2_with fail
  go_ret2
  exact ⟨_, rfl, hB1, hO⟩
set_option maxHeartbeats 400000 in
theorem RCrossings_no (A : Option Addr) (n c : Nat) (x : Cls) (w : World) (hin : ClsIn A n x w.heap.size w) (hG : ¬ InkOk x n) :
    Calls Try.prog 26 #[.agg #[.slice A n c]] w (IPost w [] 12) := by
  have KC : Hid (∀ w, ClsIn A n x w.heap.size w → _) := Lib.hid fun w h => szd_no A n c x 2 8 w h hG
  have H1 := Lib.hid ((hin.up (box1 w (.cells #[.slice A n c] 29)) (Nat.le_refl _)).more (box1 w (.cells #[.slice A n c] 29)).size)
  clear hin hG
  go_enter Try.func26, Try.ntmps26
  go_wp2_with fail
  refine (KC.out _ H1.out).mono ?_
  rintro e w1 ⟨v, rfl, hb, hown⟩
  have hB1 : Below w.heap.size w w1 := (box1 w _).trans (hb.mono (by simp only [World.size_alloc]; omega))
  have hO := own_mono hown (C := w.heap.size) (by simp only [World.size_alloc]; omega)
  clear hb hown
  go_wp2_with fail
  go_ret2
  exact ⟨_, rfl, hB1, hO⟩
/-- a row of numbers of the call's own, as a slice -/
theorem ints_form {w : World} {B n : Nat} {v : Value} {l : List Nat} (h : w.ownsRow B 3 1 v n (intsV l)) (hn : l.length = n) : ∃ (A : Option Addr) (c : Nat), v = .slice A n c ∧ ∀ i, i < n → ∃ g, A = some ⟨g, 0, none⟩ ∧ g < w.heap.size ∧ w.cell? ⟨g, i, none⟩ = some (.int .i64 (l.getD i 0 : Nat)) := by
  rcases Nat.eq_zero_or_pos n with h0 | h0
  · subst h0
    obtain ⟨_, hx | ⟨g, cap, cur, e1, e3, _⟩⟩ := h
    · exact ⟨none, 0, hx.1, fun i hi => absurd hi (by omega)⟩
    · exact ⟨_, _, e1, fun i hi => absurd hi (by omega)⟩
  · obtain ⟨g, cap, hv, _, hlt⟩ := h.form h0
    subst hv
    refine ⟨_, _, rfl, fun i hi => ⟨g, rfl, hlt, ?_⟩⟩
    have hh : i < l.length := by omega
    have := h.cells (g := g) rfl (j := i) (u := .int .i64 (l.getD i 0 : Nat)) (by simp [intsV, List.getD, List.getElem?_eq_getElem hh])
    unfold Addr.add at this
    split at this
    · rename_i h1; subst h1; exact this
    · simpa using this
set_option maxHeartbeats 1000000 in
theorem SameInts_true (l : List Nat) (n : Nat) (A B : Option Addr) (c d : Nat) (w : World) (hn : (n : Int) ≤ 9223372036854775807)
    (h1 : ∀ i, i < n → ∃ g, A = some ⟨g, 0, none⟩ ∧ g < w.heap.size ∧ w.cell? ⟨g, i, none⟩ = some (.int .i64 (l.getD i 0 : Nat))) (h2 : ∀ i, i < n → ∃ g, B = some ⟨g, 0, none⟩ ∧ g < w.heap.size ∧ w.cell? ⟨g, i, none⟩ = some (.int .i64 (l.getD i 0 : Nat))) :
    Calls Try.prog 31 #[.slice A n c, .slice B n d] w fun e w' => e = .returned (.bool true) ∧ ∃ q, w' = w.drewN q := by
  have H1 := Lib.hid h1
  have H2 := Lib.hid h2
  clear h1 h2
  go_enter Try.func31, Try.ntmps31
  go_wp2_with fail
  go_loopw [5] (fun i wr => ∃ k : Nat, k ≤ n ∧ i = .int .i64 k ∧ ∃ q, wr = w.drewN q) (fun i _ => n - (intOf i).toNat)
  case atStart => exact ⟨0, Nat.zero_le _, rfl, 0, rfl⟩
  case round =>
    obtain ⟨k, hk, rfl, q, rfl⟩ := hrel
    have hk0 : (0 : Int) ≤ (k : Int) := by omega
    by_cases hlt : k < n
    · obtain ⟨g, rfl, g1, c1⟩ := H1.out k hlt
      obtain ⟨g', rfl, g1', c1'⟩ := H2.out k hlt
      have hki : (k : Int) < (n : Int) := by omega
      generalize ((l.getD k 0 : Nat) : Int) = z at c1 c1'
      go_wp2_with fail
      go_quiet (fail)
      go_wp2_with fail
      go_roundw
      case rel => exact ⟨k + 1, by omega, by go_num, _, rfl⟩
      case measure => simp [intOf]; omega
    · have hki : (n : Int) ≤ (k : Int) := by omega
      go_wp2_with fail
      go_ret
      exact ⟨rfl, q, rfl⟩
/-- two rows of the same numbers are the same -/
theorem same_ints {W : World} {v u : Value} {l : List Nat} {B C : Nat} (hl : l.length ≤ 200) (h1 : W.ownsRow B 3 1 v l.length (intsV l)) (h2 : W.ownsRow C 3 1 u l.length (intsV l)) :
    Calls Try.prog 31 #[v, u] W fun e w' => e = .returned (.bool true) ∧ Below W.heap.size W w' := by
  obtain ⟨A, c, rfl, k1⟩ := ints_form h1 rfl
  obtain ⟨D, d, rfl, k2⟩ := ints_form h2 rfl
  exact (SameInts_true l l.length A D c d W (by omega) k1 k2).mono fun _ _ ⟨he, q, hw⟩ => ⟨he, by rw [hw]; exact below_drewN (Below.refl _ _) q⟩
end Go.Proofs.Ytmeljcbefnojfaa
