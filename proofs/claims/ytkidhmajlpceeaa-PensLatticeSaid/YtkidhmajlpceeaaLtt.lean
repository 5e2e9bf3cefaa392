/- What may be shown as one list: a lattice (the mathematics). -/
import Derived.Test.YtkidhmajlpceeaaPgD
import Derived.Test.YtkidhmajlpceeaaKep
namespace Go.Proofs.Ytkidhmajlpceeaa
open Go.RowKit
set_option linter.unusedSimpArgs false
set_option linter.unusedVariables false
/-- offsets with which a list may have been shown: within the pulled ones, and no faster than the rate -/
structure OkD (p : Pn) (Z : Nat → Int) (n : Nat) (D : Nat → Int) : Prop where
  inn : ∀ i, i < n → (Ofs p Z i).1 ≤ D i ∧ D i ≤ (Ofs p Z i).2
  rate : ∀ i, i + 1 < n → -p.r ≤ D (i + 1) + Z (i + 1) - (D i + Z i) ∧ D (i + 1) + Z (i + 1) - (D i + Z i) ≤ p.r
theorem ofs_iff {p : Pn} (hb : 0 ≤ p.b) (Z : Nat → Int) (i : Nat) (x : Int) : ((Ofs p Z (i + 1)).1 ≤ x - Z (i + 1) ∧ x - Z (i + 1) ≤ (Ofs p Z (i + 1)).2) ↔ (Z (i + 1) = lz p.b (Z i) x) := by
  unfold Ofs pul lz
  rw [show i + 1 - 1 = i by omega]
  split
  · simp only; omega
  · split
    · simp only; omega
    · simp only; omega
theorem ofs_zero (p : Pn) (Z : Nat → Int) : Ofs p Z 0 = (-p.b, p.b) := by
  unfold Ofs pul
  rw [show 0 - 1 = 0 from rfl, if_neg (by omega), if_neg (by omega)]
theorem okd_iff {p : Pn} (hb : 0 ≤ p.b) (Z : Nat → Int) (n : Nat) (X : Nat → Int) : OkD p Z n (fun i => X i - Z i) ↔ ∀ k, k < n → kAt p (fun i => (Z i, X i)) k := by
  constructor
  · intro h k hk
    match k with
    | 0 =>
      have := h.inn 0 hk
      rw [ofs_zero] at this
      exact this
    | k + 1 =>
      have h2 := h.rate k hk
      exact ⟨by simp only at h2 ⊢; omega, (ofs_iff hb Z k (X (k + 1))).1 (h.inn (k + 1) hk)⟩
  · intro h
    refine ⟨fun i hi => ?_, fun i hi => ?_⟩
    · match i with
      | 0 =>
        rw [ofs_zero]
        exact h 0 hi
      | i + 1 => exact (ofs_iff hb Z i (X (i + 1))).2 (h (i + 1) hi).2
    · have := (h (i + 1) hi).1
      simp only at this ⊢
      omega
theorem okd_Fw {p : Pn} {Z : Nat → Int} {n : Nat} {D : Nat → Int} (h : OkD p Z n D) : ∀ i, i < n → (Fw p Z i).1 ≤ D i ∧ D i ≤ (Fw p Z i).2
  | 0, hi => h.inn 0 hi
  | i + 1, hi => by
    have ih := okd_Fw h i (by omega)
    have h1 := h.inn (i + 1) hi
    have h2 := h.rate i hi
    show (lft p.r (Ofs p Z (i + 1)) (Fw p Z i) (Z (i + 1) - Z i)).1 ≤ _ ∧ _ ≤ (lft p.r (Ofs p Z (i + 1)) (Fw p Z i) (Z (i + 1) - Z i)).2
    unfold lft
    simp only
    omega
theorem okd_Gs {p : Pn} {Z : Nat → Int} {n : Nat} {D : Nat → Int} (h : OkD p Z n D) : ∀ d i, i + d + 1 = n → (Gs p Z n i).1 ≤ D i ∧ D i ≤ (Gs p Z n i).2
  | 0, i, e => by
    obtain rfl : i = n - 1 := by omega
    rw [Gs_last]
    exact okd_Fw h _ (by omega)
  | d + 1, i, e => by
    have ih := okd_Gs h d (i + 1) (by omega)
    have h1 := okd_Fw h i (by omega)
    have h2 := h.rate i (by omega)
    rw [Gs_step p Z n i (by omega)]
    unfold lft
    simp only
    omega
/-- neighbours among what is left -/
theorem Gs_next {p : Pn} (hr : 0 ≤ p.r) {Z : Nat → Int} {n : Nat} (i : Nat) (hi : i + 1 < n) :
    (-p.r ≤ (Gs p Z n (i + 1)).1 + Z (i + 1) - ((Gs p Z n i).1 + Z i) ∧ (Gs p Z n (i + 1)).1 + Z (i + 1) - ((Gs p Z n i).1 + Z i) ≤ p.r) ∧
    (-p.r ≤ (Gs p Z n (i + 1)).2 + Z (i + 1) - ((Gs p Z n i).2 + Z i) ∧ (Gs p Z n (i + 1)).2 + Z (i + 1) - ((Gs p Z n i).2 + Z i) ≤ p.r) := by
  have hF : (Fw p Z (i + 1)).1 ≤ (Gs p Z n (i + 1)).1 ∧ (Gs p Z n (i + 1)).2 ≤ (Fw p Z (i + 1)).2 := by
    by_cases h : i + 1 = n - 1
    · rw [h, Gs_last]; exact ⟨Int.le_refl _, Int.le_refl _⟩
    · rw [Gs_step p Z n (i + 1) (by omega)]
      unfold lft
      exact ⟨Int.le_max_left _ _, Int.min_le_left _ _⟩
  have e : Fw p Z (i + 1) = lft p.r (Ofs p Z (i + 1)) (Fw p Z i) (Z (i + 1) - Z i) := rfl
  rw [e] at hF
  rw [Gs_step p Z n i (by omega)]
  unfold lft at hF ⊢
  simp only at hF ⊢
  omega
theorem low_okd {p : Pn} (hr : 0 ≤ p.r) {Z : Nat → Int} {n : Nat} (hf : Ful (Gs p Z n) n) : OkD p Z n (fun i => (Gs p Z n i).1) :=
  ⟨fun i hi => by have := Gs_in p Z n i hi; have := hf i hi; omega, fun i hi => (Gs_next hr i hi).1⟩
theorem high_okd {p : Pn} (hr : 0 ≤ p.r) {Z : Nat → Int} {n : Nat} (hf : Ful (Gs p Z n) n) : OkD p Z n (fun i => (Gs p Z n i).2) :=
  ⟨fun i hi => by have := Gs_in p Z n i hi; have := hf i hi; omega, fun i hi => (Gs_next hr i hi).2⟩
theorem near_okd {p : Pn} (hr : 0 ≤ p.r) {Z : Nat → Int} {n : Nat} (hf : Ful (Gs p Z n) n) : OkD p Z n (fun i => max (Gs p Z n i).1 (min (Gs p Z n i).2 0)) :=
  ⟨fun i hi => by have := Gs_in p Z n i hi; have := hf i hi; omega, fun i hi => by
    obtain ⟨h1, h2⟩ := Gs_next (Z := Z) hr i hi
    have h3 := Gs_in p Z n (i + 1) hi
    have h4 := hf i (by omega)
    have h5 := hf (i + 1) hi
    have h6 := Gs_in p Z n i (by omega)
    unfold Ofs pul at h3
    rw [show i + 1 - 1 = i by omega] at h3
    split at h3
    · simp only at h3; omega
    · split at h3
      · simp only at h3; omega
      · simp only at h3; omega⟩
theorem okd_min {p : Pn} {Z : Nat → Int} {n : Nat} {D C : Nat → Int} (h : OkD p Z n D) (h' : OkD p Z n C) : OkD p Z n (fun i => min (D i) (C i)) :=
  ⟨fun i hi => by have := h.inn i hi; have := h'.inn i hi; omega, fun i hi => by have := h.rate i hi; have := h'.rate i hi; omega⟩
theorem okd_max {p : Pn} {Z : Nat → Int} {n : Nat} {D C : Nat → Int} (h : OkD p Z n D) (h' : OkD p Z n C) : OkD p Z n (fun i => max (D i) (C i)) :=
  ⟨fun i hi => by have := h.inn i hi; have := h'.inn i hi; omega, fun i hi => by have := h.rate i hi; have := h'.rate i hi; omega⟩
end Go.Proofs.Ytkidhmajlpceeaa
