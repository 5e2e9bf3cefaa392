/- What the specification remembers is what the package remembers. -/
import Derived.Test.YtkidhmajlpceeaaMma
import Derived.Test.YtkidhmajlpceeaaRf2
namespace Go.Proofs.Ytkidhmajlpceeaa
open Go.RowKit
/-- is the level ahead of the last d + 1 kept -/
def kpt (b : Int) (Z : Nat → Int) (n d : Nat) : Prop := ¬ (mLo Z n d ≤ Z (n - 2 - d) ∧ Z (n - 2 - d) ≤ mHi Z n d) ∧ mHi Z n d - mLo Z n d < 2 * b
instance (b : Int) (Z : Nat → Int) (n d : Nat) : Decidable (kpt b Z n d) := inferInstanceAs (Decidable (_ ∧ _))
/-- what is kept, from behind -/
def bk (b : Int) (Z : Nat → Int) (n : Nat) : Nat → List Int
  | 0 => [((n - 1 : Nat) : Int)]
  | d + 1 => if kpt b Z n d then bk b Z n d ++ [((n - 2 - d : Nat) : Int)] else bk b Z n d
theorem m_wide (Z : Nat → Int) (n e : Nat) : ∀ d, mHi Z n e - mLo Z n e ≤ mHi Z n (e + d) - mLo Z n (e + d)
  | 0 => Int.le_refl _
  | d + 1 => by
    have := m_wide Z n e d
    show _ ≤ max (mHi Z n (e + d)) (Z (n - 2 - (e + d))) - min (mLo Z n (e + d)) (Z (n - 2 - (e + d)))
    omega
theorem bk_low {b : Int} {Z : Nat → Int} {n D : Nat} (hD : ∀ e, e < D → mHi Z n e - mLo Z n e < 2 * b) : ∀ d, d ≤ D → bk b Z n d = mOut Z n d
  | 0, _ => rfl
  | d + 1, h => by
    have ih := bk_low hD d (by omega)
    have h1 := hD d (by omega)
    show (if kpt b Z n d then bk b Z n d ++ _ else bk b Z n d) = (if _ then mOut Z n d else _)
    rw [ih]
    by_cases h2 : mLo Z n d ≤ Z (n - 2 - d) ∧ Z (n - 2 - d) ≤ mHi Z n d
    · rw [if_neg (fun h3 => h3.1 h2), if_pos h2]
    · rw [if_pos ⟨h2, h1⟩, if_neg h2]
theorem bk_high {b : Int} {Z : Nat → Int} {n D : Nat} (hD : 2 * b ≤ mHi Z n D - mLo Z n D) : ∀ d, bk b Z n (D + d) = bk b Z n D
  | 0 => rfl
  | d + 1 => by
    have ih := bk_high hD d
    have h1 := m_wide Z n D d
    show (if kpt b Z n (D + d) then _ else bk b Z n (D + d)) = _
    rw [if_neg (fun h3 => by have := h3.2; omega), ih]
theorem bk_all {b : Int} {Z : Nat → Int} {n : Nat} (h1 : 1 ≤ n) : (bk b Z n (n - 1)).reverse = memL b Z n := by
  obtain ⟨g1, g2, g3⟩ := go_spec (b := b) (Z := Z) (n := n) (n - 1) 0 rfl (fun e he => absurd he (by omega))
  unfold memL
  have e1 := bk_low g1 _ (Nat.le_refl _)
  rcases g3 with g3 | g3
  · rw [g3] at e1 ⊢
    rw [e1]
  · have e2 := bk_high g3 (n - 1 - memGo b Z n (n - 1) 0)
    rw [show memGo b Z n (n - 1) 0 + (n - 1 - memGo b Z n (n - 1) 0) = n - 1 by omega] at e2
    rw [e2, e1]
theorem bk_step {b : Int} {Z : Nat → Int} {n i : Nat} {L T : List Int} (hi : i + 1 < n) (h : L ++ (bk b Z n (n - 1 - i)).reverse = T) :
    (kpt b Z n (n - 2 - i) → (L ++ [(i : Int)]) ++ (bk b Z n (n - 1 - (i + 1))).reverse = T) ∧ (¬ kpt b Z n (n - 2 - i) → L ++ (bk b Z n (n - 1 - (i + 1))).reverse = T) := by
  have e : n - 1 - i = (n - 2 - i) + 1 := by omega
  have e2 : n - 1 - (i + 1) = n - 2 - i := by omega
  have e3 : n - 2 - (n - 2 - i) = i := by omega
  rw [e] at h
  rw [e2]
  constructor
  · intro hk
    rw [← h]
    rw [show bk b Z n (n - 2 - i + 1) = (if kpt b Z n (n - 2 - i) then bk b Z n (n - 2 - i) ++ [((n - 2 - (n - 2 - i) : Nat) : Int)] else bk b Z n (n - 2 - i)) from rfl, if_pos hk, e3]
    simp
  · intro hk
    rw [← h]
    rw [show bk b Z n (n - 2 - i + 1) = (if kpt b Z n (n - 2 - i) then bk b Z n (n - 2 - i) ++ [((n - 2 - (n - 2 - i) : Nat) : Int)] else bk b Z n (n - 2 - i)) from rfl, if_neg hk]
theorem sw_iff (Z : Nat → Int) (x : Int) : ∀ m, (x ≤ swL Z m ↔ ∀ k, k ≤ m → x ≤ Z k) ∧ (swH Z m ≤ x ↔ ∀ k, k ≤ m → Z k ≤ x)
  | 0 => by
    constructor
    · exact ⟨fun h k hk => by obtain rfl : k = 0 := by omega
                              exact h, fun h => h 0 (Nat.le_refl _)⟩
    · exact ⟨fun h k hk => by obtain rfl : k = 0 := by omega
                              exact h, fun h => h 0 (Nat.le_refl _)⟩
  | m + 1 => by
    obtain ⟨i1, i2⟩ := sw_iff Z x m
    constructor
    · show x ≤ min (swL Z m) (Z (m + 1)) ↔ _
      rw [show (x ≤ min (swL Z m) (Z (m + 1))) ↔ (x ≤ swL Z m ∧ x ≤ Z (m + 1)) by omega, i1]
      exact ⟨fun h k hk => (Nat.lt_or_ge k (m + 1)).elim (fun h1 => h.1 k (by omega)) (fun h1 => (show k = m + 1 by omega) ▸ h.2), fun h => ⟨fun k hk => h k (by omega), h (m + 1) (Nat.le_refl _)⟩⟩
    · show max (swH Z m) (Z (m + 1)) ≤ x ↔ _
      rw [show (max (swH Z m) (Z (m + 1)) ≤ x) ↔ (swH Z m ≤ x ∧ Z (m + 1) ≤ x) by omega, i2]
      exact ⟨fun h k hk => (Nat.lt_or_ge k (m + 1)).elim (fun h1 => h.1 k (by omega)) (fun h1 => (show k = m + 1 by omega) ▸ h.2), fun h => ⟨fun k hk => h k (by omega), h (m + 1) (Nat.le_refl _)⟩⟩
theorem m_iff (Z : Nat → Int) (n : Nat) (x : Int) : ∀ d, d + 1 ≤ n → (x ≤ mLo Z n d ↔ ∀ k, k ≤ d → x ≤ Z (n - 1 - d + k)) ∧ (mHi Z n d ≤ x ↔ ∀ k, k ≤ d → Z (n - 1 - d + k) ≤ x)
  | 0, _ => by
    constructor
    · exact ⟨fun h k hk => by obtain rfl : k = 0 := by omega
                              exact h, fun h => h 0 (Nat.le_refl _)⟩
    · exact ⟨fun h k hk => by obtain rfl : k = 0 := by omega
                              exact h, fun h => h 0 (Nat.le_refl _)⟩
  | d + 1, hd => by
    obtain ⟨i1, i2⟩ := m_iff Z n x d (by omega)
    have e0 : n - 1 - (d + 1) + 0 = n - 2 - d := by omega
    have e1 : ∀ k, n - 1 - (d + 1) + (k + 1) = n - 1 - d + k := fun k => by omega
    constructor
    · show x ≤ min (mLo Z n d) (Z (n - 2 - d)) ↔ _
      rw [show (x ≤ min (mLo Z n d) (Z (n - 2 - d))) ↔ (x ≤ mLo Z n d ∧ x ≤ Z (n - 2 - d)) by omega, i1]
      constructor
      · intro h k hk
        cases k with
        | zero => rw [e0]; exact h.2
        | succ k => rw [e1]; exact h.1 k (by omega)
      · intro h
        exact ⟨fun k hk => by have := h (k + 1) (by omega); rwa [e1] at this, by have := h 0 (by omega); rwa [e0] at this⟩
    · show max (mHi Z n d) (Z (n - 2 - d)) ≤ x ↔ _
      rw [show (max (mHi Z n d) (Z (n - 2 - d)) ≤ x) ↔ (mHi Z n d ≤ x ∧ Z (n - 2 - d) ≤ x) by omega, i2]
      constructor
      · intro h k hk
        cases k with
        | zero => rw [e0]; exact h.2
        | succ k => rw [e1]; exact h.1 k (by omega)
      · intro h
        exact ⟨fun k hk => by have := h (k + 1) (by omega); rwa [e1] at this, by have := h 0 (by omega); rwa [e0] at this⟩
/-- the swing of what lies behind -/
theorem sw_tail (Z : Nat → Int) (n i : Nat) (h : i + 1 < n) : swL (fun k => Z (i + 1 + k)) (n - 1 - (i + 1)) = mLo Z n (n - 2 - i) ∧ swH (fun k => Z (i + 1 + k)) (n - 1 - (i + 1)) = mHi Z n (n - 2 - i) := by
  have e : n - 1 - (n - 2 - i) = i + 1 := by omega
  have e2 : n - 1 - (i + 1) = n - 2 - i := by omega
  rw [e2]
  have hx : ∀ x, (x ≤ swL (fun k => Z (i + 1 + k)) (n - 2 - i) ↔ x ≤ mLo Z n (n - 2 - i)) ∧ (swH (fun k => Z (i + 1 + k)) (n - 2 - i) ≤ x ↔ mHi Z n (n - 2 - i) ≤ x) := fun x => by
    obtain ⟨s1, s2⟩ := sw_iff (fun k => Z (i + 1 + k)) x (n - 2 - i)
    obtain ⟨m1, m2⟩ := m_iff Z n x (n - 2 - i) (by omega)
    rw [e] at m1 m2
    exact ⟨s1.trans m1.symm, s2.trans m2.symm⟩
  exact ⟨Int.le_antisymm ((hx _).1.1 (Int.le_refl _)) ((hx _).1.2 (Int.le_refl _)), Int.le_antisymm ((hx _).2.2 (Int.le_refl _)) ((hx _).2.1 (Int.le_refl _))⟩
end Go.Proofs.Ytkidhmajlpceeaa
