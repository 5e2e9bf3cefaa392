/- The turns of the specification are the turns of the package. -/
import Derived.Test.YtkidhmajlpceeaaTur
import Derived.Test.YtkidhmajlpceeaaRsw
namespace Go.Proofs.Ytkidhmajlpceeaa
open Go.RowKit
/-- a list turns at an index -/
def trdP (Z : Nat → Int) (n i : Nat) : Prop := 0 < i ∧ Z i ≠ Z (i - 1) ∧ ∃ k, i < k ∧ k < n ∧ (∀ j, i < j → j < k → Z j = Z i) ∧ Z k ≠ Z i ∧ (Z i < Z k ↔ Z i < Z (i - 1))
open Classical in
noncomputable def rT (Z : Nat → Int) (n : Nat) : Nat → List Int
  | 0 => []
  | i + 1 => if trdP Z n i then rT Z n i ++ [(i : Int)] else rT Z n i
theorem rT_yes {Z : Nat → Int} {n i : Nat} (h : trdP Z n i) : rT Z n (i + 1) = rT Z n i ++ [(i : Int)] := if_pos h
theorem rT_no {Z : Nat → Int} {n i : Nat} (h : ¬ trdP Z n i) : rT Z n (i + 1) = rT Z n i := if_neg h
theorem rT_len (Z : Nat → Int) (n : Nat) : ∀ i, (rT Z n i).length ≤ i
  | 0 => Nat.le_refl _
  | i + 1 => by
    have ih := rT_len Z n i
    by_cases h : trdP Z n i
    · rw [rT_yes h, List.length_append, List.length_singleton]; omega
    · rw [rT_no h]; omega
theorem rT_same {Z : Nat → Int} {n a : Nat} : ∀ d, (∀ i, a ≤ i → i < a + d → ¬ trdP Z n i) → rT Z n (a + d) = rT Z n a
  | 0, _ => rfl
  | d + 1, h => by
    have ih := rT_same d fun i h1 h2 => h i h1 (by omega)
    rw [← Nat.add_assoc, rT_no (h (a + d) (by omega) (by omega)), ih]
theorem run_at (Z : Nat → Int) : ∀ j, (∀ i, tlast Z j ≤ i → i ≤ j → Z i = Z j) ∧ (0 < tlast Z j → Z (tlast Z j) ≠ Z (tlast Z j - 1))
  | 0 => ⟨fun i _ h2 => by obtain rfl : i = 0 := by omega
                           rfl, fun h => absurd h (by simp [tlast])⟩
  | j + 1 => by
    obtain ⟨h1, h2⟩ := run_at Z j
    by_cases h : Z (j + 1) = Z j
    · have e : tlast Z (j + 1) = tlast Z j := if_pos h
      rw [e]
      refine ⟨fun i ha hb => ?_, h2⟩
      rcases Nat.lt_or_ge i (j + 1) with h3 | h3
      · rw [h1 i ha (by omega), h]
      · obtain rfl : i = j + 1 := by omega
        rfl
    · have e : tlast Z (j + 1) = j + 1 := if_neg h
      rw [e]
      refine ⟨fun i ha hb => ?_, fun _ => ?_⟩
      · obtain rfl : i = j + 1 := by omega
        rfl
      · rw [Nat.add_sub_cancel]; exact h
theorem tyes_iff (Z : Nat → Int) (j : Nat) : tyes Z j = true ↔ (Z (j + 1) ≠ Z j ∧ 0 < tlast Z j ∧ (Z (tlast Z j - 1) < Z (tlast Z j) ↔ Z (j + 1) < Z j)) := by
  unfold tyes
  simp only [Bool.and_eq_true, decide_eq_true_eq, beq_iff_eq, decide_eq_decide]
theorem trd_run {Z : Nat → Int} {n j : Nat} (hj : j + 1 < n) (hne : Z (j + 1) ≠ Z j) : trdP Z n (tlast Z j) ↔ tyes Z j = true := by
  obtain ⟨h1, h2⟩ := run_at Z j
  have hle := tlast_le Z j
  have es := h1 (tlast Z j) (Nat.le_refl _) hle
  rw [tyes_iff]
  constructor
  · rintro ⟨a1, a2, k, b1, b2, b3, b4, b5⟩
    have hk : k = j + 1 := by
      rcases Nat.lt_or_ge j k with h3 | h3
      · rcases Nat.lt_or_ge (j + 1) k with h4 | h4
        · exact absurd ((b3 (j + 1) (by omega) h4).trans es) hne
        · omega
      · exact absurd ((h1 k (by omega) h3).trans es.symm) b4
    subst hk
    refine ⟨hne, a1, ?_⟩
    omega
  · rintro ⟨a1, a2, a3⟩
    have a4 := h2 a2
    refine ⟨a2, a4, j + 1, by omega, hj, fun i hi1 hi2 => ?_, by rw [es]; exact a1, by omega⟩
    rw [h1 i (by omega) (by omega), es]
theorem trd_in {Z : Nat → Int} {n j i : Nat} (h1 : tlast Z j < i) (h2 : i ≤ j) : ¬ trdP Z n i := by
  rintro ⟨_, a2, _⟩
  obtain ⟨h3, _⟩ := run_at Z j
  exact a2 ((h3 i (by omega) h2).trans (h3 (i - 1) (by omega) (by omega)).symm)
theorem tout_rT {Z : Nat → Int} {n : Nat} : ∀ j, j + 1 ≤ n → tout Z j = rT Z n (tlast Z j)
  | 0, _ => rfl
  | j + 1, h => by
    have ih := tout_rT (Z := Z) (n := n) j (by omega)
    by_cases he : Z (j + 1) = Z j
    · have e : tlast Z (j + 1) = tlast Z j := if_pos he
      have hy : ¬ tyes Z j = true := fun hy => ((tyes_iff Z j).1 hy).1 he
      rw [e, ← ih]
      exact if_neg hy
    · have e : tlast Z (j + 1) = j + 1 := if_neg he
      have hle := tlast_le Z j
      have hr := rT_same (Z := Z) (n := n) (a := tlast Z j + 1) (j - tlast Z j) fun i h1 h2 => trd_in (j := j) (by omega) (by omega)
      rw [show tlast Z j + 1 + (j - tlast Z j) = j + 1 by omega] at hr
      rw [e, hr]
      have ht := trd_run (n := n) (by omega) he
      by_cases hy : tyes Z j = true
      · rw [rT_yes (ht.2 hy), ← ih]
        exact if_pos hy
      · rw [rT_no (fun h => hy (ht.1 h)), ← ih]
        exact if_neg hy
theorem rT_all {Z : Nat → Int} {n : Nat} (h : 1 ≤ n) : rT Z n n = turnsL Z n := by
  unfold turnsL
  rw [tout_rT (n := n) (n - 1) (by omega)]
  have hle := tlast_le Z (n - 1)
  obtain ⟨h1, _⟩ := run_at Z (n - 1)
  have hr := rT_same (Z := Z) (n := n) (a := tlast Z (n - 1)) (n - tlast Z (n - 1)) fun i ha hb => by
    rcases Nat.lt_or_ge (tlast Z (n - 1)) i with h3 | h3
    · exact trd_in (j := n - 1) h3 (by omega)
    · rintro ⟨_, _, k, b1, b2, _, b4, _⟩
      exact b4 ((h1 k (by omega) (by omega)).trans (h1 i (by omega) (by omega)).symm)
  rwa [show tlast Z (n - 1) + (n - tlast Z (n - 1)) = n by omega] at hr
theorem trd_first (Z : Nat → Int) (n i : Nat) : (∃ k, i < k ∧ k < n ∧ (∀ j, i < j → j < k → Z j = Z i) ∧ Z k ≠ Z i) ∨ ∀ j, i < j → j < n → Z j = Z i := by
  induction n with
  | zero => exact .inr fun j _ h => absurd h (by omega)
  | succ n ih =>
    rcases ih with ⟨k, a1, a2, a3, a4⟩ | h
    · exact .inl ⟨k, a1, by omega, a3, a4⟩
    · by_cases h1 : i < n ∧ Z n ≠ Z i
      · exact .inl ⟨n, h1.1, by omega, h, h1.2⟩
      · refine .inr fun j h2 h3 => ?_
        rcases Nat.lt_or_ge j n with h4 | h4
        · exact h j h2 h4
        · obtain rfl : j = n := by omega
          exact Classical.byContradiction fun h5 => h1 ⟨h2, h5⟩
end Go.Proofs.Ytkidhmajlpceeaa
