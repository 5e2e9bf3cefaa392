/- The offsets of the specification: the mathematics. -/
import Derived.Test.YtkidhmajlpceeaaPgD
namespace Go.Proofs.Ytkidhmajlpceeaa
open Go.RowKit
set_option linter.unusedSimpArgs false
set_option linter.unusedVariables false
def bo (a b : Int × Int) : Int × Int := (max a.1 b.1, min a.2 b.2)
/-- offsets from which what is shown may change, where a change leads to; the offsets behind a change, and ahead of one -/
def frm (p : Pn) (d : Int) : Int × Int := if 0 < d then bo (d + p.b - p.r, p.b) (-p.b, p.b) else bo (-p.b, d - p.b + p.r) (-p.b, p.b)
def ndd (p : Pn) (d : Int) : Int × Int := if 0 < d then (p.b, p.b) else (-p.b, -p.b)
def aft (p : Pn) (s : Int × Int) (d : Int) : Int × Int :=
  if s.2 < s.1 then (1, 0) else if d = 0 then bo (s.1 - p.r, s.2 + p.r) (-p.b, p.b) else if (bo s (frm p d)).2 < (bo s (frm p d)).1 then (1, 0) else ndd p d
def ahd (p : Pn) (s : Int × Int) (d : Int) : Int × Int :=
  if s.2 < s.1 then (1, 0) else if d = 0 then (s.1 - p.r, s.2 + p.r) else if (bo s (ndd p d)).2 < (bo s (ndd p d)).1 then (1, 0) else frm p d
def RF (p : Pn) (Z : Nat → Int) : Nat → Int × Int
  | 0 => (-p.b, p.b)
  | k + 1 => aft p (RF p Z k) (Z (k + 1) - Z k)
def RB (p : Pn) (Z : Nat → Int) (n : Nat) : Nat → Int × Int
  | 0 => RF p Z (n - 1)
  | m + 1 => bo (RF p Z (n - 1 - (m + 1))) (ahd p (RB p Z n m) (Z (n - 1 - m) - Z (n - 1 - (m + 1))))
def RG (p : Pn) (Z : Nat → Int) (n i : Nat) : Int × Int := RB p Z n (n - 1 - i)
theorem RG_last (p : Pn) (Z : Nat → Int) (n : Nat) : RG p Z n (n - 1) = RF p Z (n - 1) := by unfold RG; rw [show n - 1 - (n - 1) = 0 by omega]; rfl
theorem RG_step (p : Pn) (Z : Nat → Int) (n k : Nat) (h : k + 1 ≤ n - 1) : RG p Z n k = bo (RF p Z k) (ahd p (RG p Z n (k + 1)) (Z (k + 1) - Z k)) := by
  unfold RG
  rw [show n - 1 - k = (n - 1 - (k + 1)) + 1 by omega]
  show bo (RF p Z (n - 1 - (n - 1 - (k + 1) + 1))) (ahd p _ (Z (n - 1 - (n - 1 - (k + 1))) - Z (n - 1 - (n - 1 - (k + 1) + 1)))) = _
  rw [show n - 1 - (n - 1 - (k + 1) + 1) = k by omega, show n - 1 - (n - 1 - (k + 1)) = k + 1 by omega]
theorem pr_eq {x y : Int × Int} (h1 : x.1 = y.1) (h2 : x.2 = y.2) : x = y := by
  cases x; cases y; simp only at h1 h2; rw [h1, h2]
/-- one step onward -/
theorem aft_is {p : Pn} (hb : 0 ≤ p.b) (hr : 0 ≤ p.r) {s : Int × Int} (d : Int) (h0 : s.1 ≤ s.2) (h1 : -p.b ≤ s.1) (h2 : s.2 ≤ p.b) :
    ((lft p.r (pul p.b d) s d).1 ≤ (lft p.r (pul p.b d) s d).2 → aft p s d = lft p.r (pul p.b d) s d) ∧ ((lft p.r (pul p.b d) s d).2 < (lft p.r (pul p.b d) s d).1 → (aft p s d).2 < (aft p s d).1) := by
  unfold aft
  rw [if_neg (by omega)]
  rcases Int.lt_trichotomy d 0 with h | h | h
  · rw [if_neg (by omega)]
    have e1 : pul p.b d = (-p.b, -p.b) := by unfold pul; rw [if_neg (by omega), if_pos h]
    have e2 : frm p d = bo (-p.b, d - p.b + p.r) (-p.b, p.b) := by unfold frm; rw [if_neg (by omega)]
    have e3 : ndd p d = (-p.b, -p.b) := by unfold ndd; rw [if_neg (by omega)]
    rw [e1, e2, e3]
    unfold lft bo
    simp only
    refine ⟨fun h => ?_, fun h => ?_⟩
    · rw [if_neg (by omega)]
      apply pr_eq
      · simp only; omega
      · simp only; omega
    · rw [if_pos (by omega)]
      decide
  · subst h
    rw [if_pos rfl]
    rw [show pul p.b 0 = (-p.b, p.b) from rfl]
    unfold lft bo
    simp only
    refine ⟨fun h => ?_, fun h => by omega⟩
    apply pr_eq
    · simp only; omega
    · simp only; omega
  · rw [if_neg (by omega)]
    have e1 : pul p.b d = (p.b, p.b) := by unfold pul; rw [if_pos h]
    have e2 : frm p d = bo (d + p.b - p.r, p.b) (-p.b, p.b) := by unfold frm; rw [if_pos h]
    have e3 : ndd p d = (p.b, p.b) := by unfold ndd; rw [if_pos h]
    rw [e1, e2, e3]
    unfold lft bo
    simp only
    refine ⟨fun h => ?_, fun h => ?_⟩
    · rw [if_neg (by omega)]
      apply pr_eq
      · simp only; omega
      · simp only; omega
    · rw [if_pos (by omega)]
      decide
theorem Ofs_band {p : Pn} (hb : 0 ≤ p.b) (Z : Nat → Int) (k : Nat) : -p.b ≤ (Ofs p Z k).1 ∧ (Ofs p Z k).2 ≤ p.b := by
  unfold Ofs pul
  split
  · simp only; omega
  · split
    · simp only; omega
    · simp only; omega
theorem rf_is {p : Pn} (hb : 0 ≤ p.b) (hr : 0 ≤ p.r) (Z : Nat → Int) : ∀ k, ((∀ j, j ≤ k → (Fw p Z j).1 ≤ (Fw p Z j).2) → RF p Z k = Fw p Z k) ∧ (¬ (∀ j, j ≤ k → (Fw p Z j).1 ≤ (Fw p Z j).2) → (RF p Z k).2 < (RF p Z k).1)
  | 0 => by
    have e : Fw p Z 0 = (-p.b, p.b) := by
      show Ofs p Z 0 = _
      unfold Ofs pul
      rw [show 0 - 1 = 0 from rfl, if_neg (by omega), if_neg (by omega)]
    refine ⟨fun _ => e.symm, fun h => absurd (fun j hj => ?_) h⟩
    obtain rfl : j = 0 := by omega
    rw [e]
    simp only; omega
  | k + 1 => by
    obtain ⟨i1, i2⟩ := rf_is hb hr Z k
    have eF : Fw p Z (k + 1) = lft p.r (pul p.b (Z (k + 1) - Z k)) (Fw p Z k) (Z (k + 1) - Z k) := by
      show lft p.r (Ofs p Z (k + 1)) _ _ = _
      unfold Ofs
      rw [show k + 1 - 1 = k by omega]
    show (_ → aft p (RF p Z k) (Z (k + 1) - Z k) = _) ∧ (_ → (aft p (RF p Z k) (Z (k + 1) - Z k)).2 < (aft p (RF p Z k) (Z (k + 1) - Z k)).1)
    by_cases hk : ∀ j, j ≤ k → (Fw p Z j).1 ≤ (Fw p Z j).2
    · rw [i1 hk]
      obtain ⟨f1, f2⟩ := Fw_in p Z k
      obtain ⟨g1, g2⟩ := Ofs_band hb Z k
      obtain ⟨a1, a2⟩ := aft_is hb hr (Z (k + 1) - Z k) (hk k (Nat.le_refl _)) (by omega) (by omega)
      rw [← eF] at a1 a2
      refine ⟨fun h => a1 (h (k + 1) (Nat.le_refl _)), fun h => a2 ?_⟩
      apply Classical.byContradiction
      intro hn
      exact h fun j hj => by
        by_cases e : j = k + 1
        · rw [e]; omega
        · exact hk j (by omega)
    · have hx := i2 hk
      have e : aft p (RF p Z k) (Z (k + 1) - Z k) = (1, 0) := by unfold aft; rw [if_pos hx]
      rw [e]
      exact ⟨fun h => absurd (fun j hj => h j (by omega)) hk, fun _ => by decide⟩
/-- one step backward -/
theorem ahd_is {p : Pn} (_hb : 0 ≤ p.b) (hr : 0 ≤ p.r) {s t f : Int × Int} (d : Int) (h0 : s.1 ≤ s.2) (h1 : (pul p.b d).1 ≤ s.1) (h2 : s.2 ≤ (pul p.b d).2) (f1 : -p.b ≤ f.1) (f2 : f.2 ≤ p.b) (_ht : t = f) :
    bo f (ahd p s d) = lft p.r f s (-d) := by
  unfold ahd
  rw [if_neg (by omega)]
  rcases Int.lt_trichotomy d 0 with h | h | h
  · rw [if_neg (by omega)]
    have e1 : pul p.b d = (-p.b, -p.b) := by unfold pul; rw [if_neg (by omega), if_pos h]
    have e2 : frm p d = bo (-p.b, d - p.b + p.r) (-p.b, p.b) := by unfold frm; rw [if_neg (by omega)]
    have e3 : ndd p d = (-p.b, -p.b) := by unfold ndd; rw [if_neg (by omega)]
    rw [e1] at h1 h2
    rw [e2, e3]
    simp only at h1 h2
    rw [if_neg (by unfold bo; simp only; omega)]
    unfold lft bo
    apply pr_eq
    · simp only; omega
    · simp only; omega
  · subst h
    rw [if_pos rfl]
    unfold lft bo
    apply pr_eq
    · simp only; omega
    · simp only; omega
  · rw [if_neg (by omega)]
    have e1 : pul p.b d = (p.b, p.b) := by unfold pul; rw [if_pos h]
    have e2 : frm p d = bo (d + p.b - p.r, p.b) (-p.b, p.b) := by unfold frm; rw [if_pos h]
    have e3 : ndd p d = (p.b, p.b) := by unfold ndd; rw [if_pos h]
    rw [e1] at h1 h2
    rw [e2, e3]
    simp only at h1 h2
    rw [if_neg (by unfold bo; simp only; omega)]
    unfold lft bo
    apply pr_eq
    · simp only; omega
    · simp only; omega
theorem Gs_Fw (p : Pn) (Z : Nat → Int) (n i : Nat) (hi : i < n) : (Fw p Z i).1 ≤ (Gs p Z n i).1 ∧ (Gs p Z n i).2 ≤ (Fw p Z i).2 := by
  by_cases h : i = n - 1
  · rw [h, Gs_last]; exact ⟨Int.le_refl _, Int.le_refl _⟩
  · rw [Gs_step p Z n i (by omega)]
    unfold lft
    exact ⟨Int.le_max_left _ _, Int.min_le_left _ _⟩
/-- both narrowings are the same, as long as something is left -/
theorem rg_down {p : Pn} (hb : 0 ≤ p.b) (hr : 0 ≤ p.r) (Z : Nat → Int) (n : Nat) (hF : ∀ j, j < n → (Fw p Z j).1 ≤ (Fw p Z j).2) : ∀ d i, i + d + 1 = n →
    ((∀ j, i ≤ j → j < n → (Gs p Z n j).1 ≤ (Gs p Z n j).2) → RG p Z n i = Gs p Z n i) ∧ (¬ (∀ j, i ≤ j → j < n → (Gs p Z n j).1 ≤ (Gs p Z n j).2) → (RG p Z n i).2 < (RG p Z n i).1)
  | 0, i, e => by
    obtain rfl : i = n - 1 := by omega
    rw [RG_last, Gs_last, (rf_is hb hr Z (n - 1)).1 fun j hj => hF j (by omega)]
    refine ⟨fun _ => rfl, fun h => absurd (fun j h1 h2 => ?_) h⟩
    obtain rfl : j = n - 1 := by omega
    rw [Gs_last]
    exact hF _ (by omega)
  | d + 1, i, e => by
    obtain ⟨i1, i2⟩ := rg_down hb hr Z n hF d (i + 1) (by omega)
    have hf : RF p Z i = Fw p Z i := (rf_is hb hr Z i).1 fun j hj => hF j (by omega)
    rw [RG_step p Z n i (by omega), Gs_step p Z n i (by omega), hf]
    by_cases hk : ∀ j, i + 1 ≤ j → j < n → (Gs p Z n j).1 ≤ (Gs p Z n j).2
    · rw [i1 hk]
      obtain ⟨g1, g2⟩ := Gs_in p Z n (i + 1) (by omega)
      obtain ⟨f1, f2⟩ := Fw_in p Z i
      obtain ⟨o1, o2⟩ := Ofs_band hb Z i
      have eO : Ofs p Z (i + 1) = pul p.b (Z (i + 1) - Z i) := by unfold Ofs; rw [show i + 1 - 1 = i by omega]
      rw [eO] at g1 g2
      have ea := ahd_is hb hr (f := Fw p Z i) (t := Fw p Z i) (Z (i + 1) - Z i) (hk (i + 1) (Nat.le_refl _) (by omega)) g1 g2 (by omega) (by omega) rfl
      rw [ea, show Z i - Z (i + 1) = -(Z (i + 1) - Z i) by omega]
      refine ⟨fun _ => rfl, fun h => ?_⟩
      apply Classical.byContradiction
      intro hn
      exact h fun j h1 h2 => by
        by_cases e : j = i
        · rw [e, Gs_step p Z n i (by omega), show Z i - Z (i + 1) = -(Z (i + 1) - Z i) by omega]; omega
        · exact hk j (by omega) h2
    · have hx := i2 hk
      have e : ahd p (RG p Z n (i + 1)) (Z (i + 1) - Z i) = (1, 0) := by unfold ahd; rw [if_pos hx]
      rw [e]
      refine ⟨fun h => absurd (fun j h1 h2 => h j (by omega) h2) hk, fun _ => ?_⟩
      unfold bo
      simp only; omega
theorem rg_in (p : Pn) (Z : Nat → Int) (n i : Nat) (hi : i < n) : (RF p Z i).1 ≤ (RG p Z n i).1 ∧ (RG p Z n i).2 ≤ (RF p Z i).2 := by
  by_cases h : i = n - 1
  · rw [h, RG_last]; exact ⟨Int.le_refl _, Int.le_refl _⟩
  · rw [RG_step p Z n i (by omega)]
    unfold bo
    exact ⟨Int.le_max_left _ _, Int.min_le_left _ _⟩
/-- what is left by the specification is what is left by the program -/
theorem rg_all {p : Pn} (hb : 0 ≤ p.b) (hr : 0 ≤ p.r) (Z : Nat → Int) (n : Nat) : (Ful (RG p Z n) n ↔ Ful (Gs p Z n) n) ∧ (Ful (Gs p Z n) n → ∀ i, i < n → RG p Z n i = Gs p Z n i) := by
  have hB : Ful (Gs p Z n) n → ∀ i, i < n → RG p Z n i = Gs p Z n i := fun h i hi =>
    (rg_down hb hr Z n (fun j hj => by have := Gs_Fw p Z n j hj; have := h j hj; omega) (n - 1 - i) i (by omega)).1 fun j _ h2 => h j h2
  refine ⟨⟨fun h => ?_, fun h i hi => by rw [hB h i hi]; exact h i hi⟩, hB⟩
  have hF : ∀ j, j < n → (Fw p Z j).1 ≤ (Fw p Z j).2 := fun j hj => by
    apply Classical.byContradiction
    intro hn
    have := (rf_is hb hr Z j).2 fun ha => hn (ha j (Nat.le_refl _))
    have h2 := rg_in p Z n j hj
    have h3 := h j hj
    omega
  intro i hi
  apply Classical.byContradiction
  intro hn
  have := (rg_down hb hr Z n hF (n - 1 - i) i (by omega)).2 fun ha => hn (ha i (Nat.le_refl _) hi)
  have := h i hi
  omega
end Go.Proofs.Ytkidhmajlpceeaa
