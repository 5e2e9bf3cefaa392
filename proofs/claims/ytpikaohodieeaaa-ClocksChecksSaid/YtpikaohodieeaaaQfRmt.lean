/- The mathematics of the specification of clocks: spans onward and backward, differences tick by tick, sets one behind the other, pairs. -/
import Derived.Test.YtpikaohodieeaaaQfHas
namespace Go.Proofs.Ytpikaohodieeaaa
open Go.RowKit
set_option linter.unusedSimpArgs false
set_option linter.unusedVariables false
/-- the spans onward -/
def fwd (G S : Nat → Int × Int) : Nat → Int × Int
  | 0 => S 0
  | i + 1 => nar (S (i + 1)) (addS (fwd G S i) (G i))
def fwK (G S : Nat → Int × Int) (k i : Nat) : Int × Int := if i ≤ k then fwd G S i else S i
theorem fwK_0 (G S : Nat → Int × Int) (i : Nat) : fwK G S 0 i = S i := by
  unfold fwK
  split
  · obtain rfl : i = 0 := by omega
    rfl
  · rfl
theorem fwK_succ (G S : Nat → Int × Int) (k i : Nat) : upd (fwK G S k) (k + 1) (nar (fwK G S k (k + 1)) (addS (fwK G S k k) (G k))) i = fwK G S (k + 1) i := by
  unfold upd
  by_cases e : i = k + 1
  · subst e
    rw [if_pos rfl]
    unfold fwK
    rw [if_neg (by omega), if_pos (Nat.le_refl _), if_pos (Nat.le_refl _)]
    rfl
  · rw [if_neg e]
    unfold fwK
    by_cases h : i ≤ k
    · rw [if_pos h, if_pos (by omega)]
    · rw [if_neg h, if_neg (by omega)]
/-- the spans backward, by the distance from the last column -/
def bwd (n : Nat) (G f : Nat → Int × Int) : Nat → Int × Int
  | 0 => f n
  | j + 1 => nar (f (n - 1 - j)) (addS (bwd n G f j) (oppS (G (n - 1 - j))))
def bwK (n : Nat) (G f : Nat → Int × Int) (k i : Nat) : Int × Int := if n ≤ i + k then bwd n G f (n - i) else f i
theorem bwK_0 (n : Nat) (G f : Nat → Int × Int) (i : Nat) (hi : i ≤ n) : bwK n G f 0 i = f i := by
  unfold bwK
  split
  · obtain rfl : i = n := by omega
    rw [Nat.sub_self]; rfl
  · rfl
theorem bwK_succ (n : Nat) (G f : Nat → Int × Int) (k i : Nat) (hk : k < n) (hi : i ≤ n) : upd (bwK n G f k) (n - 1 - k) (nar (bwK n G f k (n - 1 - k)) (addS (bwK n G f k (n - 1 - k + 1)) (oppS (G (n - 1 - k))))) i = bwK n G f (k + 1) i := by
  unfold upd
  by_cases e : i = n - 1 - k
  · subst e
    rw [if_pos rfl]
    unfold bwK
    rw [if_neg (by omega), if_pos (by omega), if_pos (by omega), show n - (n - 1 - k) = k + 1 by omega, show n - (n - 1 - k + 1) = k by omega]
    rfl
  · rw [if_neg e]
    unfold bwK
    by_cases h : n ≤ i + k
    · rw [if_pos h, if_pos (by omega)]
    · rw [if_neg h, if_neg (by omega)]
/-- what the specification's spans are -/
def spF (n : Nat) (G S : Nat → Int × Int) (i : Nat) : Int × Int := bwd n G (fwd G S) (n - i)
theorem spF_n (n : Nat) (G S : Nat → Int × Int) : spF n G S n = fwd G S n := by unfold spF; rw [Nat.sub_self]; rfl
theorem spF_i (n : Nat) (G S : Nat → Int × Int) (i : Nat) (hi : i < n) : spF n G S i = nar (fwd G S i) (addS (spF n G S (i + 1)) (oppS (G i))) := by
  unfold spF
  rw [show n - i = (n - (i + 1)) + 1 by omega]
  show nar _ _ = _
  rw [show n - 1 - (n - (i + 1)) = i by omega]
theorem fwd_in {n : Nat} {G S : Nat → Int × Int} {T : Nat → Int} (h : RdS n G S T) : ∀ i, i ≤ n → hasP (fwd G S i) (T i)
  | 0, hi => h.tick 0 hi
  | i + 1, hi => by
    have h1 := fwd_in h i (by omega)
    have h2 := h.gap i (by omega)
    have h3 := h.tick (i + 1) hi
    show hasP (nar _ _) _
    unfold hasP nar at *
    simp only
    omega
theorem spF_in {n : Nat} {G S : Nat → Int × Int} {T : Nat → Int} (h : RdS n G S T) : ∀ j, j ≤ n → hasP (spF n G S (n - j)) (T (n - j))
  | 0, hi => by rw [Nat.sub_zero, spF_n]; exact fwd_in h n (Nat.le_refl _)
  | j + 1, hi => by
    have h1 := spF_in h j (by omega)
    have h2 := h.gap (n - (j + 1)) (by omega)
    have h3 := fwd_in h (n - (j + 1)) (by omega)
    rw [show n - j = n - (j + 1) + 1 by omega] at h1
    rw [spF_i n G S _ (by omega)]
    unfold hasP nar at *
    simp only
    omega
/-- the specification's spans are exact, or one of them is empty and there is no reading -/
theorem spF_ends {n : Nat} {G S : Nat → Int × Int} (hG : ∀ i, i < n → neS (G i)) (hne : ∀ i, i ≤ n → neS (spF n G S i)) : Ends n (RdS n G S) (spF n G S) := by
  have hf : ∀ i, i ≤ n → (fwd G S i).1 ≤ (spF n G S i).1 ∧ (spF n G S i).2 ≤ (fwd G S i).2 := fun i hi => by
    by_cases e : i = n
    · subst e; rw [spF_n]; omega
    · rw [spF_i n G S i (by omega)]; unfold nar; simp only; omega
  have hS : ∀ i, (S i).1 ≤ (fwd G S i).1 ∧ (fwd G S i).2 ≤ (S i).2 := fun i => by
    cases i with
    | zero => exact ⟨Int.le_refl _, Int.le_refl _⟩
    | succ i => show _ ≤ (nar _ _).1 ∧ (nar _ _).2 ≤ _; unfold nar; simp only; omega
  have hs : ∀ i, i < n → hasP (G i) ((spF n G S (i + 1)).1 - (spF n G S i).1) ∧ hasP (G i) ((spF n G S (i + 1)).2 - (spF n G S i).2) := fun i hi => by
    have h1 := hf (i + 1) hi
    have h2 : fwd G S (i + 1) = nar (S (i + 1)) (addS (fwd G S i) (G i)) := rfl
    have h3 := hG i hi
    rw [spF_i n G S i hi]
    rw [h2] at h1
    unfold hasP nar neS at *
    simp only at *
    omega
  refine ⟨fun T hT i hi => ?_, ⟨fun i hi => ?_, fun i hi => (hs i hi).1⟩, ⟨fun i hi => ?_, fun i hi => (hs i hi).2⟩⟩
  · have := spF_in hT (n - i) (by omega)
    rw [show n - (n - i) = i by omega] at this
    exact this
  · have h1 := hf i hi; have h2 := hS i; have h3 := hne i hi; unfold neS at h3; omega
  · have h1 := hf i hi; have h2 := hS i; have h3 := hne i hi; unfold neS at h3; omega
theorem spF_none {n : Nat} {G S : Nat → Int × Int} {i : Nat} (hi : i ≤ n) (h : ¬ neS (spF n G S i)) (T : Nat → Int) : ¬ RdS n G S T := fun hT => h (by
  have := spF_in hT (n - i) (by omega)
  rw [show n - (n - i) = i by omega] at this
  unfold hasP at this
  unfold neS
  omega)
end Go.Proofs.Ytpikaohodieeaaa
