import Derived.Test.YtkidhmajlpceeaaBase
namespace Go.Proofs.Ytkidhmajlpceeaa
open Go.RowKit
/-- a pen's numbers -/
structure Pn where
  b : Int
  lo : Int
  hi : Int
  r : Int
abbrev Pn.v (p : Pn) : Value := .agg #[.int .i64 p.b, .int .i64 p.lo, .int .i64 p.hi, .int .i64 p.r]
structure Pn.Ok (p : Pn) : Prop where
  b : 0 ≤ p.b ∧ p.b ≤ 8
  lo : -200 ≤ p.lo ∧ p.lo ≤ 200
  hi : p.lo ≤ p.hi ∧ p.hi ≤ 200
  sp : p.hi - p.lo ≤ 40
  r : 0 ≤ p.r ∧ p.r ≤ 12000
def HasPn (p : Pn) (b : Nat) (w : World) : Prop := w.cell? ⟨b, 0, none⟩ = some (.int .i64 (p.b)) ∧ w.cell? ⟨b, 1, none⟩ = some (.int .i64 (p.lo)) ∧ w.cell? ⟨b, 2, none⟩ = some (.int .i64 (p.hi)) ∧ w.cell? ⟨b, 3, none⟩ = some (.int .i64 (p.r))
theorem HasPn.up {p : Pn} {b : Nat} {w w' : World} (h : HasPn p b w) (hb : Below w.heap.size w w') (hl : b < w.heap.size) : HasPn p b w' :=
  ⟨cell_up hb hl h.1, cell_up hb hl h.2.1, cell_up hb hl h.2.2.1, cell_up hb hl h.2.2.2⟩
theorem HasPn.lt {p : Pn} {b : Nat} {w : World} (h : HasPn p b w) : b < w.heap.size := World.block_lt_of_cell? _ _ h.1
theorem pn_or {p : Pn} (h : ¬ p.Ok) : ¬ (0 ≤ p.b ∧ p.b ≤ 8) ∨ (0 ≤ p.b ∧ p.b ≤ 8) ∧ (¬ (-200 ≤ p.lo ∧ p.lo ≤ 200) ∨ (-200 ≤ p.lo ∧ p.lo ≤ 200) ∧ (¬ (p.lo ≤ p.hi ∧ p.hi ≤ 200) ∨ (p.lo ≤ p.hi ∧ p.hi ≤ 200) ∧ (40 < p.hi - p.lo ∨ p.hi - p.lo ≤ 40 ∧ ¬ (0 ≤ p.r ∧ p.r ≤ 12000)))) := by
  by_cases h1 : 0 ≤ p.b ∧ p.b ≤ 8
  · refine .inr ⟨h1, ?_⟩
    by_cases h2 : -200 ≤ p.lo ∧ p.lo ≤ 200
    · refine .inr ⟨h2, ?_⟩
      by_cases h3 : p.lo ≤ p.hi ∧ p.hi ≤ 200
      · refine .inr ⟨h3, ?_⟩
        by_cases h4 : p.hi - p.lo ≤ 40
        · exact .inr ⟨h4, fun h5 => h ⟨h1, h2, h3, h4, h5⟩⟩
        · exact .inl (by omega)
      · exact .inl h3
    · exact .inl h2
  · exact .inl h1
set_option maxHeartbeats 1000000 in
theorem Check_t (p : Pn) (w : World) (h : p.Ok) :
    Calls Try.prog 27 #[p.v] w fun e w' => e = .returned (.int .i64 0) ∧ Below w.heap.size w w' := by
  obtain ⟨h1, h2, h3, h4, h5⟩ := h
  have d4 : decide (p.hi - p.lo > 40) = false := by simp; omega
  have k2 := h2.1
  have k3 := h2.2
  have k4 := h3.1
  have k5 := h3.2
  go_enter Try.func27, Try.ntmps27
  go_wp2_with (first | (go_at_call 73; refine (between_t _ _ _ _ (by assumption)).mono ?_; rintro e w' ⟨rfl, rfl⟩) | fail)
  go_ret
  exact ⟨rfl, (Below.refl _ _).alloc (Nat.le_refl _) _⟩
set_option maxHeartbeats 2000000 in
theorem Check_f (p : Pn) (w : World) (h : ¬ p.Ok) :
    Calls Try.prog 27 #[p.v] w fun e w' => e = .returned (.int .i64 30) ∧ Below w.heap.size w w' := by
  rcases pn_or h with h1 | ⟨h1, h2 | ⟨h2, h3 | ⟨h3, h4 | ⟨h4, h5⟩⟩⟩⟩
  · clear h
    go_enter Try.func27, Try.ntmps27
    go_wp2_with (first | (go_at_call 73; refine (between_f _ _ _ _ (by assumption)).mono ?_; rintro e w' ⟨rfl, rfl⟩) | fail)
    go_ret
    exact ⟨rfl, (Below.refl _ _).alloc (Nat.le_refl _) _⟩
  · clear h
    go_enter Try.func27, Try.ntmps27
    go_wp2_with (first | (go_at_call 73; refine (between_t _ _ _ _ (by assumption)).mono ?_; rintro e w' ⟨rfl, rfl⟩) | (go_at_call 73; refine (between_f _ _ _ _ (by assumption)).mono ?_; rintro e w' ⟨rfl, rfl⟩) | fail)
    go_ret
    exact ⟨rfl, (Below.refl _ _).alloc (Nat.le_refl _) _⟩
  · clear h
    go_enter Try.func27, Try.ntmps27
    go_wp2_with (first | (go_at_call 73; refine (between_t _ _ _ _ (by assumption)).mono ?_; rintro e w' ⟨rfl, rfl⟩) | (go_at_call 73; refine (between_f _ _ _ _ (by assumption)).mono ?_; rintro e w' ⟨rfl, rfl⟩) | fail)
    go_ret
    exact ⟨rfl, (Below.refl _ _).alloc (Nat.le_refl _) _⟩
  · clear h
    have d4 : decide (p.hi - p.lo > 40) = true := by simp; omega
    have k2 := h2.1
    have k3 := h2.2
    have k4 := h3.1
    have k5 := h3.2
    go_enter Try.func27, Try.ntmps27
    go_wp2_with (first | (go_at_call 73; refine (between_t _ _ _ _ (by assumption)).mono ?_; rintro e w' ⟨rfl, rfl⟩) | (go_at_call 73; refine (between_f _ _ _ _ (by assumption)).mono ?_; rintro e w' ⟨rfl, rfl⟩) | fail)
    go_ret
    exact ⟨rfl, (Below.refl _ _).alloc (Nat.le_refl _) _⟩
  · clear h
    have d4 : decide (p.hi - p.lo > 40) = false := by simp; omega
    have k2 := h2.1
    have k3 := h2.2
    have k4 := h3.1
    have k5 := h3.2
    go_enter Try.func27, Try.ntmps27
    go_wp2_with (first | (go_at_call 73; refine (between_t _ _ _ _ (by assumption)).mono ?_; rintro e w' ⟨rfl, rfl⟩) | (go_at_call 73; refine (between_f _ _ _ _ (by assumption)).mono ?_; rintro e w' ⟨rfl, rfl⟩) | fail)
    go_ret
    exact ⟨rfl, (Below.refl _ _).alloc (Nat.le_refl _) _⟩
/-- all numbers of a list are levels -/
def Lvs (Z : Nat → Int) (n : Nat) : Prop := ∀ i, i < n → -50000 ≤ Z i ∧ Z i ≤ 50000
theorem lev1_any (x : Int) (b : Bool) (w : World) (h : b = !btw x (-50000) 50000) :
    Calls Try.prog 109 #[.int .i64 x] w fun e w' => e = .returned (.bool b) ∧ w = w' := by
  go_enter Try.func109, Try.ntmps109
  go_wp2_with (go_at_call 73; refine (between_any _ _ _ _).mono ?_; rintro e w' ⟨rfl, rfl⟩)
  go_ret
  exact ⟨by rw [h]; rfl, rfl⟩
theorem lvs_or (Z : Nat → Int) (n : Nat) : Lvs Z n ∨ ∃ k, k < n ∧ Lvs Z k ∧ ¬ (-50000 ≤ Z k ∧ Z k ≤ 50000) := by
  induction n with
  | zero => exact .inl fun i hi => absurd hi (by omega)
  | succ n ih =>
    rcases ih with h | ⟨k, hk, h1, h2⟩
    · by_cases hx : -50000 ≤ Z n ∧ Z n ≤ 50000
      · exact .inl fun i hi => (Nat.lt_succ_iff_lt_or_eq.1 hi).elim (h i) (fun e => e ▸ hx)
      · exact .inr ⟨n, by omega, h, hx⟩
    · exact .inr ⟨k, by omega, h1, h2⟩
set_option maxHeartbeats 1000000 in
theorem ixl_t (A : Option Addr) (n c : Nat) (Z : Nat → Int) (w : World) (hin : IntsIn A n Z w.heap.size w) (hL : Lvs Z n) :
    Calls Try.prog 116 #[.slice A n c, .func (.func 109) #[] #[]] w fun e w' => e = .returned (.int .i64 (-1)) ∧ w = w' := by
  have HIN := Lib.hid hin
  obtain ⟨hn, _⟩ := hin
  have HL := Lib.hid hL
  clear hL
  go_enter Try.func116, Try.ntmps116
  go_wp2_with fail
  go_loop [5, 8] (fun _ i => ∃ k : Nat, k ≤ n ∧ i = .int .i64 k) (fun _ i => n - (intOf i).toNat)
  case atStart => exact ⟨0, Nat.zero_le _, rfl⟩
  case round =>
    obtain ⟨k, hk, rfl⟩ := hrel
    have hk0 : (0 : Int) ≤ (k : Int) := by omega
    by_cases hlt : k < n
    · obtain ⟨a, rfl, ab, c0⟩ := HIN.out.2 k hlt
      have hki : (k : Int) < (n : Int) := by omega
      have K := Lib.hid (lev1_any (Z k) false w (by have := HL.out k hlt; simp [btw, this]))
      go_wp2_with (go_at_call 109; refine K.out.mono ?_; rintro e w' ⟨rfl, rfl⟩)
      go_round
      case rel => exact ⟨k + 1, by omega, by go_num⟩
      case measure => simp [intOf]; omega
    · have hki : (n : Int) ≤ (k : Int) := by omega
      go_wp2_with fail
      go_ret
      exact ⟨rfl, rfl⟩
end Go.Proofs.Ytkidhmajlpceeaa
