import Derived.Test.YtmeljcbefnojfaaOpn
namespace Go.Proofs.Ytmeljcbefnojfaa
open Go.RowKit
/-- levels and least heights -/
theorem lev_iff {p : Pap} {l y : Int} (h : p.Ok) (_hl : p.low ≤ l) : l ≤ lev p y ↔ lowst p l ≤ y := by
  have h4 := h.low
  have h2 := h.height
  unfold lev lowst cdiv
  generalize hr : p.high - p.low = r
  generalize hk : l - p.low = k
  have hr1 : 1 ≤ r := by omega
  have e1 : l ≤ p.low + y * r / p.height ↔ k ≤ y * r / p.height := by omega
  rw [e1, Int.le_ediv_iff_mul_le (by omega)]
  have e2 : (k * p.height + r - 1) / r ≤ y ↔ (k * p.height + r - 1) / r < y + 1 := by omega
  rw [e2, Int.ediv_lt_iff_lt_mul (by omega), Int.add_mul]
  omega
theorem lev_zero (p : Pap) : lev p 0 = p.low := by unfold lev; simp
theorem lev_top {p : Pap} (h : p.Ok) : lev p p.height = p.high := by
  have h2 := h.height
  unfold lev; rw [Int.mul_ediv_cancel_left _ (by omega)]; omega
theorem lev_step {p : Pap} {y : Int} (h : p.Ok) : lev p (y + 1) ≤ lev p y + 1 := by
  have h4 := h.low
  have h5 := h.rise
  have h2 := h.height
  unfold lev
  rw [Int.add_mul]
  have := div_step (n := y * (p.high - p.low)) (d := 1 * (p.high - p.low)) (D := p.height) (by omega) (by omega)
  omega
theorem lowst_low {p : Pap} (h : p.Ok) : lowst p p.low = 0 := by
  have h4 := h.low
  unfold lowst cdiv
  rw [Int.sub_self, Int.zero_mul]
  exact Int.ediv_eq_zero_of_lt (by omega) (by omega)
/-- the heights of a level -/
theorem lev_lowst {p : Pap} {l : Int} (h : p.Ok) (hl : p.low ≤ l ∧ l ≤ p.high) : 0 ≤ lowst p l ∧ lowst p l ≤ p.height ∧ lev p (lowst p l) = l := by
  have b := lowst_bd (l := l) h (by omega)
  have t : lowst p l ≤ p.height := (lev_iff h hl.1).1 (by rw [lev_top h]; exact hl.2)
  have g1 : l ≤ lev p (lowst p l) := (lev_iff h hl.1).2 (Int.le_refl _)
  refine ⟨b.1, t, ?_⟩
  by_cases h0 : lowst p l = 0
  · rw [h0] at g1 ⊢
    rw [lev_zero] at g1 ⊢
    omega
  · have g2 : ¬ l ≤ lev p (lowst p l - 1) := fun hh => by have := (lev_iff h hl.1).1 hh; omega
    have g3 := lev_step (y := lowst p l - 1) h
    rw [show lowst p l - 1 + 1 = lowst p l by omega] at g3
    omega
theorem lev_next {p : Pap} {l : Int} (h : p.Ok) (hl : p.low ≤ l ∧ l < p.high) : lowst p l < lowst p (l + 1) ∧ lowst p (l + 1) ≤ p.height ∧ lev p (lowst p (l + 1) - 1) = l := by
  obtain ⟨a1, a2, a3⟩ := lev_lowst h (l := l) ⟨hl.1, by omega⟩
  obtain ⟨b1, b2, b3⟩ := lev_lowst h (l := l + 1) ⟨by omega, by omega⟩
  have c1 : ¬ lowst p (l + 1) ≤ lowst p l := fun hh => by have := (lev_iff (l := l + 1) h (by omega)).2 hh; omega
  have c2 : ¬ l + 1 ≤ lev p (lowst p (l + 1) - 1) := fun hh => by have := (lev_iff (l := l + 1) h (by omega)).1 hh; omega
  have c3 : l ≤ lev p (lowst p (l + 1) - 1) := (lev_iff h hl.1).2 (by omega)
  exact ⟨by omega, b2, by omega⟩
theorem lowst_top {p : Pap} (h : p.Ok) : p.height < lowst p (p.high + 1) := by
  have h4 := h.low
  have : ¬ lowst p (p.high + 1) ≤ p.height := fun hh => by have := (lev_iff (l := p.high + 1) h (by omega)).2 hh; rw [lev_top h] at this; omega
  omega
end Go.Proofs.Ytmeljcbefnojfaa
