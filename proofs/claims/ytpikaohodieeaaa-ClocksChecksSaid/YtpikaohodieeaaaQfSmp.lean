import Derived.Test.YtpikaohodieeaaaQfCtr
namespace Go.Proofs.Ytpikaohodieeaaa
open Go.RowKit
set_option linter.unusedSimpArgs false
set_option linter.unusedVariables false
/-- in a rising list the last column that has passed -/
theorem lastP_rise {Z : Nat → Int} {x : Int} : ∀ (n : Nat), (∀ i, i + 1 < n → Z i < Z (i + 1)) → -1 ≤ lastP Z x n ∧ lastP Z x n < n ∧ ∀ k : Nat, k < n → (Z k ≤ x ↔ (k : Int) ≤ lastP Z x n)
  | 0, _ => ⟨by simp [lastP], by simp [lastP], fun k h => by omega⟩
  | n + 1, h => by
    obtain ⟨h1, h2, h3⟩ := lastP_rise (Z := Z) (x := x) n (fun i hi => h i (by omega))
    unfold lastP
    split
    · rename_i hz
      refine ⟨by omega, by omega, fun k hk => ⟨fun _ => by omega, fun _ => ?_⟩⟩
      have : ∀ j k, k + j = n → Z k ≤ Z n := by
        intro j
        induction j with
        | zero => intro k e; rw [show k = n by omega]; exact Int.le_refl _
        | succ j ih => intro k e; have a := ih (k + 1) (by omega); have b := h k (by omega); omega
      have := this (n - k) k (by omega)
      omega
    · rename_i hz
      refine ⟨h1, by omega, fun k hk => ?_⟩
      by_cases e : k = n
      · subst e; constructor
        · intro; omega
        · intro; omega
      · exact h3 k (by omega)
end Go.Proofs.Ytpikaohodieeaaa
namespace Go.Proofs.Ytpikaohodieeaaa
open Go.RowKit
set_option linter.unusedSimpArgs false
set_option linter.unusedVariables false
/-- the drum of the document's examples, its marks, and one more -/
def smG : Nat → Int × Int := fun i => if i = 2 then (1, 4) else (2, 3)
def smD (a b : Nat) : Drm := ⟨some ⟨a, 0, none⟩, 3, 3, smG, some ⟨b, 0, none⟩, 1, 1, fun _ => (1, 0, 5)⟩
def smF : Nat → Int × Int × Int := fun i => if i = 0 then (0, 10, 12) else if i = 1 then (3, 20, 22) else (2, 10, 13)
theorem smD_ok (a b : Nat) : DrOk (smD a b) := ⟨by show 1 ≤ 3; decide, by show 3 < 200; decide, by show 1 ≤ 16; decide, fun i hi => by
  show isS (smG i) 1 40
  unfold smG
  split <;> decide, fun i hi => by show (0 ≤ (1 : Int) ∧ (1 : Int) < (3 : Nat)) ∧ isS (0, 5) 0 400; decide⟩
theorem smF_ok (a b m : Nat) (h : m ≤ 3) : MksOk (smD a b) m smF := ⟨by omega, fun i hi => by
  show (0 ≤ (smF i).1 ∧ (smF i).1 ≤ (3 : Nat)) ∧ isS (smF i).2 0 400
  unfold smF
  split
  · decide
  · split <;> decide⟩
theorem sm_rd {a b m : Nat} {F : Nat → Int × Int × Int} {T : Nat → Int} (h : Rdg 3 (gapF (smD a b)) m F T) : (0 ≤ T 0 ∧ T 0 ≤ 400) ∧ (2 ≤ T 1 - T 0 ∧ T 1 - T 0 ≤ 3) ∧ (2 ≤ T 2 - T 1 ∧ T 2 - T 1 ≤ 8) ∧ (1 ≤ T 3 - T 2 ∧ T 3 - T 2 ≤ 4) :=
  ⟨h.tick 0 (by omega), h.gap 0 (by omega), h.gap 1 (by omega), h.gap 2 (by omega)⟩
def smS : Nat → Int × Int := fun i => if i = 0 then (10, 12) else if i = 1 then (12, 15) else if i = 2 then (16, 21) else (20, 22)
def smS2 : Nat → Int × Int := fun i => if i = 0 then (12, 12) else if i = 1 then (14, 15) else if i = 2 then (16, 21) else (20, 22)
theorem sm_lt4 {P : Nat → Prop} (h0 : P 0) (h1 : P 1) (h2 : P 2) (h3 : P 3) : ∀ i, i ≤ 3 → P i := fun i hi => by
  match i with
  | 0 => exact h0
  | 1 => exact h1
  | 2 => exact h2
  | 3 => exact h3
  | n + 4 => omega
theorem sm_ends (a b : Nat) : Ends 3 (Rdg 3 (gapF (smD a b)) 2 smF) smS := by
  refine ⟨fun T h => ?_, ⟨by decide, ?_, ?_⟩, ⟨by decide, ?_, ?_⟩⟩
  · obtain ⟨_, h1, h2, h3⟩ := sm_rd h
    have m0 := h.mark 0 (by omega)
    have m1 := h.mark 1 (by omega)
    have m0' : 10 ≤ T 0 ∧ T 0 ≤ 12 := m0
    have m1' : 20 ≤ T 3 ∧ T 3 ≤ 22 := m1
    refine sm_lt4 ?_ ?_ ?_ ?_
    · show 10 ≤ T 0 ∧ T 0 ≤ 12; omega
    · show 12 ≤ T 1 ∧ T 1 ≤ 15; omega
    · show 16 ≤ T 2 ∧ T 2 ≤ 21; omega
    · show 20 ≤ T 3 ∧ T 3 ≤ 22; omega
  · show ∀ i, i < 3 → (gapF (smD 0 0) i).1 ≤ (smS (i + 1)).1 - (smS i).1 ∧ (smS (i + 1)).1 - (smS i).1 ≤ (gapF (smD 0 0) i).2; decide
  · show ∀ i, i < 2 → (smF i).2.1 ≤ (smS (smF i).1.toNat).1 ∧ (smS (smF i).1.toNat).1 ≤ (smF i).2.2; decide
  · show ∀ i, i < 3 → (gapF (smD 0 0) i).1 ≤ (smS (i + 1)).2 - (smS i).2 ∧ (smS (i + 1)).2 - (smS i).2 ≤ (gapF (smD 0 0) i).2; decide
  · show ∀ i, i < 2 → (smF i).2.1 ≤ (smS (smF i).1.toNat).2 ∧ (smS (smF i).1.toNat).2 ≤ (smF i).2.2; decide
theorem sm_ends2 (a b : Nat) : Ends 3 (Rdg 3 (gapF (smD a b)) 3 (catF 2 smF fun _ => (0, 12, 12))) smS2 := by
  refine ⟨fun T h => ?_, ⟨by decide, ?_, ?_⟩, ⟨by decide, ?_, ?_⟩⟩
  · obtain ⟨_, h1, h2, h3⟩ := sm_rd h
    have m0' : 12 ≤ T 0 ∧ T 0 ≤ 12 := h.mark 2 (by omega)
    have m1' : 20 ≤ T 3 ∧ T 3 ≤ 22 := h.mark 1 (by omega)
    refine sm_lt4 ?_ ?_ ?_ ?_
    · show 12 ≤ T 0 ∧ T 0 ≤ 12; omega
    · show 14 ≤ T 1 ∧ T 1 ≤ 15; omega
    · show 16 ≤ T 2 ∧ T 2 ≤ 21; omega
    · show 20 ≤ T 3 ∧ T 3 ≤ 22; omega
  · show ∀ i, i < 3 → (gapF (smD 0 0) i).1 ≤ (smS2 (i + 1)).1 - (smS2 i).1 ∧ (smS2 (i + 1)).1 - (smS2 i).1 ≤ (gapF (smD 0 0) i).2; decide
  · show ∀ i, i < 3 → (catF 2 smF (fun _ => (0, 12, 12)) i).2.1 ≤ (smS2 (catF 2 smF (fun _ => (0, 12, 12)) i).1.toNat).1 ∧ (smS2 (catF 2 smF (fun _ => (0, 12, 12)) i).1.toNat).1 ≤ (catF 2 smF (fun _ => (0, 12, 12)) i).2.2; decide
  · show ∀ i, i < 3 → (gapF (smD 0 0) i).1 ≤ (smS2 (i + 1)).2 - (smS2 i).2 ∧ (smS2 (i + 1)).2 - (smS2 i).2 ≤ (gapF (smD 0 0) i).2; decide
  · show ∀ i, i < 3 → (catF 2 smF (fun _ => (0, 12, 12)) i).2.1 ≤ (smS2 (catF 2 smF (fun _ => (0, 12, 12)) i).1.toNat).2 ∧ (smS2 (catF 2 smF (fun _ => (0, 12, 12)) i).1.toNat).2 ≤ (catF 2 smF (fun _ => (0, 12, 12)) i).2.2; decide
theorem sm_rdr (a b : Nat) : RdR (smD a b) 2 smF true 0 smS := .inr ⟨smD_ok a b, smF_ok a b 2 (by omega), .inr (.inr ⟨rfl, rfl, sm_ends a b⟩)⟩
theorem sm_rwr (a b : Nat) : RwR (smD a b) 2 smF 0 12 0 smS2 := .inr ⟨smD_ok a b, smF_ok a b 2 (by omega), ⟨⟨by decide, by show (0 : Int) ≤ (3 : Nat); decide⟩, by decide⟩, ⟨_, sm_ends a b⟩, .inr ⟨rfl, sm_ends2 a b⟩⟩
theorem sm_some {a b m : Nat} {F : Nat → Int × Int × Int} (l : List Int) (h0 : ∀ i, i < 4 → 0 ≤ asZ l i ∧ asZ l i ≤ 400) (h1 : ∀ i, i < 3 → (gapF (smD 0 0) i).1 ≤ asZ l (i + 1) - asZ l i ∧ asZ l (i + 1) - asZ l i ≤ (gapF (smD 0 0) i).2) (h2 : ∀ i, i < m → (F i).2.1 ≤ asZ l (F i).1.toNat ∧ asZ l (F i).1.toNat ≤ (F i).2.2) :
    ∃ T, Rdg (smD a b).n (gapF (smD a b)) m F T := ⟨asZ l, h0, h1, h2⟩
def smAl : Nat → Bool := fun _ => true
def smPr (i j : Nat) : Bool := !((i == 0 && j == 2) || (i == 2 && j == 0) || (i == 1 && j == 2) || (i == 2 && j == 1))
theorem sm_con (a b : Nat) : ConR (smD a b) 3 smF [[0, 2], [1, 2]] := by
  refine ⟨true, smAl, smPr, by decide, ?_, ?_, ?_⟩
  · exact ⟨fun _ => ⟨asZ [10, 12, 16, 20], by show ∀ i, i < 4 → 0 ≤ asZ [10, 12, 16, 20] i ∧ asZ [10, 12, 16, 20] i ≤ 400; decide, by show ∀ i, i < 3 → (gapF (smD 0 0) i).1 ≤ asZ [10, 12, 16, 20] (i + 1) - asZ [10, 12, 16, 20] i ∧ asZ [10, 12, 16, 20] (i + 1) - asZ [10, 12, 16, 20] i ≤ (gapF (smD 0 0) i).2; decide, fun i hi => by omega⟩, fun _ => rfl⟩
  · intro i hi
    refine ⟨fun _ => ?_, fun _ => rfl⟩
    match i, hi with
    | 0, _ => exact sm_some [10, 12, 16, 20] (by decide) (by decide) (by decide)
    | 1, _ => exact sm_some [10, 12, 16, 20] (by decide) (by decide) (by decide)
    | 2, _ => exact sm_some [6, 8, 10, 11] (by decide) (by decide) (by decide)
  · intro i j hi hj
    match i, hi, j, hj with
    | 0, _, 0, _ => exact ⟨fun _ => sm_some [10, 12, 16, 20] (by decide) (by decide) (by decide), fun _ => rfl⟩
    | 0, _, 1, _ => exact ⟨fun _ => sm_some [10, 12, 16, 20] (by decide) (by decide) (by decide), fun _ => rfl⟩
    | 1, _, 0, _ => exact ⟨fun _ => sm_some [10, 12, 16, 20] (by decide) (by decide) (by decide), fun _ => rfl⟩
    | 1, _, 1, _ => exact ⟨fun _ => sm_some [10, 12, 16, 20] (by decide) (by decide) (by decide), fun _ => rfl⟩
    | 2, _, 2, _ => exact ⟨fun _ => sm_some [6, 8, 10, 11] (by decide) (by decide) (by decide), fun _ => rfl⟩
    | 0, _, 2, _ => 
      refine ⟨fun h => by simp [smPr] at h, fun ⟨T, h⟩ => ?_⟩
      obtain ⟨_, h1, h2, h3⟩ := sm_rd h
      have m0 : 10 ≤ T 0 ∧ T 0 ≤ 12 := h.mark 0 (by omega)
      have m1 : 10 ≤ T 2 ∧ T 2 ≤ 13 := h.mark 1 (by omega)
      omega
    | 2, _, 0, _ => 
      refine ⟨fun h => by simp [smPr] at h, fun ⟨T, h⟩ => ?_⟩
      obtain ⟨_, h1, h2, h3⟩ := sm_rd h
      have m0 : 10 ≤ T 0 ∧ T 0 ≤ 12 := h.mark 1 (by omega)
      have m1 : 10 ≤ T 2 ∧ T 2 ≤ 13 := h.mark 0 (by omega)
      omega
    | 1, _, 2, _ => 
      refine ⟨fun h => by simp [smPr] at h, fun ⟨T, h⟩ => ?_⟩
      obtain ⟨_, h1, h2, h3⟩ := sm_rd h
      have m0 : 20 ≤ T 3 ∧ T 3 ≤ 22 := h.mark 0 (by omega)
      have m1 : 10 ≤ T 2 ∧ T 2 ≤ 13 := h.mark 1 (by omega)
      omega
    | 2, _, 1, _ => 
      refine ⟨fun h => by simp [smPr] at h, fun ⟨T, h⟩ => ?_⟩
      obtain ⟨_, h1, h2, h3⟩ := sm_rd h
      have m0 : 20 ≤ T 3 ∧ T 3 ≤ 22 := h.mark 1 (by omega)
      have m1 : 10 ≤ T 2 ∧ T 2 ≤ 13 := h.mark 0 (by omega)
      omega
theorem sm_par (a b : Nat) : PaR (smD a b) 3 smF [[0, 2], [1, 2]] 0 := .inr ⟨smD_ok a b, smF_ok a b 3 (by omega), sm_con a b, rfl⟩
instance (s x : List Int) : Decidable (meets s x) := by unfold meets; exact inferInstance
theorem dL_dec (P : List (List Int)) (m k : Nat) : dL P m k = (ext m k 0).filter fun s => decide (∀ x, x ∈ P → meets s x) := by
  unfold dL
  congr
  funext s
  congr
theorem sm_dpr (a b : Nat) : DpR (smD a b) 3 smF [[2]] 0 := .inr ⟨smD_ok a b, smF_ok a b 3 (by omega), .inr (.inr ⟨by omega, ⟨asZ [10, 12, 16, 20], by show ∀ i, i < 4 → 0 ≤ asZ [10, 12, 16, 20] i ∧ asZ [10, 12, 16, 20] i ≤ 400; decide, by show ∀ i, i < 3 → (gapF (smD 0 0) i).1 ≤ asZ [10, 12, 16, 20] (i + 1) - asZ [10, 12, 16, 20] i ∧ asZ [10, 12, 16, 20] (i + 1) - asZ [10, 12, 16, 20] i ≤ (gapF (smD 0 0) i).2; decide, fun i hi => by omega⟩, rfl, _, 1, sm_con a b, by omega, by rw [dL_dec]; decide, by decide, fun j hj => by
  obtain rfl : j = 0 := by omega
  rw [dL_dec]; decide⟩)⟩
theorem sm_aps (a b : Nat) : apS (gapF (smD a b)) smS 1 3 = (5, 10) := by show apS (gapF (smD 0 0)) smS 1 3 = (5, 10); decide
theorem sm_rat1 : ratP 5 2 = (5, 2) := by decide
theorem sm_rat2 : ratP 10 2 = (5, 1) := by decide
theorem sm_at : (lastP (fun i => (smS i).2) 16 4, lastP (fun i => (smS i).1) 16 4) = (1, 2) := by decide
end Go.Proofs.Ytpikaohodieeaaa
