/- The mathematics of ClocksMinimal: what minimal contradictions are. -/
import Derived.Test.YtpikaohodieeaaaHlp
namespace Go.Proofs.Ytpikaohodieeaaa
open Go.RowKit
set_option linter.unusedSimpArgs false
set_option linter.unusedVariables false
theorem ext_mem2 {m i j : Nat} (hij : i < j) (hj : j < m) : [(i : Int), (j : Int)] ∈ ext m 2 0 := by
  simp only [ext, List.mem_flatMap, List.mem_map, List.mem_range]
  refine ⟨i, by omega, [(j : Int)], ⟨j - (0 + i + 1), by omega, [], by simp, ?_⟩, by simp⟩
  congr 1
  omega
/-- which lists the minimal contradictions are -/
theorem con_mem {R0 : Bool} {al : Nat → Bool} {pr : Nat → Nat → Bool} {m : Nat} {x : List Int} : x ∈ conL R0 al pr m ↔ (R0 = false ∧ x = []) ∨ (R0 = true ∧ ((∃ i, i < m ∧ al i = false ∧ x = [(i : Int)]) ∨ ∃ i j, i < j ∧ j < m ∧ al i = true ∧ al j = true ∧ pr i j = false ∧ x = [(i : Int), (j : Int)])) := by
  unfold conL
  cases R0 with
  | false => simp
  | true =>
    rw [if_pos rfl, List.mem_append]
    unfold sgL prL
    rw [List.take_length]
    simp only [List.mem_map, List.mem_filter, List.mem_range]
    constructor
    · rintro (⟨i, ⟨h1, h2⟩, rfl⟩ | ⟨h1, h2⟩)
      · exact .inr ⟨by first | rfl | trivial, .inl ⟨i, h1, by simpa using h2, rfl⟩⟩
      · obtain ⟨i, j, rfl, k1, k2⟩ := ext_two h1
        unfold pass at h2
        simp at h2
        exact .inr ⟨by first | rfl | trivial, .inr ⟨i, j, by omega, by omega, h2.1, h2.2.1, h2.2.2, rfl⟩⟩
    · rintro (⟨h, _⟩ | ⟨_, ⟨i, h1, h2, rfl⟩ | ⟨i, j, h1, h2, h3, h4, h5, rfl⟩⟩)
      · cases h
      · exact .inl ⟨i, ⟨h1, by rw [h2]; rfl⟩, rfl⟩
      · exact .inr ⟨ext_mem2 h1 h2, by unfold pass; simp [h3, h4, h5]⟩
/-- the marks that are picked by indices that are right -/
theorem pkL_len_ok {F : Nat → Int × Int × Int} {m : Nat} {Z : Nat → Int} : ∀ {n : Nat}, (∀ i, i < n → 0 ≤ Z i ∧ Z i < m) → (pkL F m Z n).length = n ∧ ∀ i, i < n → lsF (pkL F m Z n) i = F (Z i).toNat
  | 0, _ => ⟨rfl, fun i hi => by omega⟩
  | n + 1, h => by
    obtain ⟨h1, h2⟩ := pkL_len_ok (F := F) (n := n) fun i hi => h i (by omega)
    have e : pkL F m Z (n + 1) = pkL F m Z n ++ [F (Z n).toNat] := if_pos (h n (by omega))
    rw [e]
    refine ⟨by rw [List.length_append, List.length_singleton, h1], fun i hi => ?_⟩
    by_cases hin : i < n
    · rw [← h2 i hin]
      unfold lsF
      simp [List.getD_eq_getElem?_getD, List.getElem?_append_left (show i < (pkL F m Z n).length by omega)]
    · obtain rfl : i = n := by omega
      unfold lsF
      rw [List.getD_eq_getElem?_getD, List.getElem?_append_right (by omega), h1]
      simp
/-- marks contradict if and only if a minimal contradiction lies within them -/
theorem set_math {d : Drm} {m : Nat} {F : Nat → Int × Int × Int} {L : List (List Int)} (h : ConR d m F L) {n : Nat} {Z : Nat → Int} (hZ : ∀ i, i < n → 0 ≤ Z i ∧ Z i < m) : (∃ T, Rdg d.n (gapF d) (pkL F m Z n).length (lsF (pkL F m Z n)) T) ↔ ¬ ∃ x, x ∈ L ∧ ∀ y, y ∈ x → ∃ i, i < n ∧ Z i = y := by
  obtain ⟨R0, al, pr, rfl, h0, h1, h2⟩ := h
  obtain ⟨e1, e2⟩ := pkL_len_ok (F := F) hZ
  rw [e1]
  constructor
  · rintro ⟨T, hT⟩ ⟨x, hx, hy⟩
    have hm : ∀ a, a < n → hasP (F (Z a).toNat).2 (T (F (Z a).toNat).1.toNat) := fun a ha => by have := hT.mark a ha; rwa [e2 a ha] at this
    rcases con_mem.1 hx with ⟨k, rfl⟩ | ⟨k, ⟨i, k1, k2, rfl⟩ | ⟨i, j, k1, k2, k3, k4, k5, rfl⟩⟩
    · rw [h0.2 ⟨T, hT.tick, hT.gap, fun i hi => by omega⟩] at k; cases k
    · obtain ⟨a, ha, ea⟩ := hy (i : Int) (by simp)
      have hh := hm a ha
      rw [ea, Int.toNat_natCast] at hh
      rw [(h1 i k1).2 ⟨T, hT.tick, hT.gap, fun k _ => hh⟩] at k2
      cases k2
    · obtain ⟨a, ha, ea⟩ := hy (i : Int) (by simp)
      obtain ⟨b, hb, eb⟩ := hy (j : Int) (by simp)
      have hha := hm a ha
      have hhb := hm b hb
      rw [ea, Int.toNat_natCast] at hha
      rw [eb, Int.toNat_natCast] at hhb
      rw [(h2 i j (by omega) k2).2 ⟨T, hT.tick, hT.gap, fun k _ => by
        unfold two3
        by_cases e : k = 0
        · rw [if_pos e]; exact hha
        · rw [if_neg e]; exact hhb⟩] at k5
      cases k5
  · intro hno
    have hR : R0 = true := by
      cases R0 with
      | true => rfl
      | false => exact absurd ⟨[], con_mem.2 (.inl ⟨rfl, rfl⟩), fun y hy => by cases hy⟩ hno
    have hal : ∀ a, a < n → al (Z a).toNat = true := fun a ha => by
      have hz := hZ a ha
      cases e : al (Z a).toNat with
      | true => rfl
      | false => exact absurd ⟨[Z a], con_mem.2 (.inr ⟨hR, .inl ⟨(Z a).toNat, by omega, e, by rw [Int.toNat_of_nonneg hz.1]⟩⟩), fun y hy => by simp at hy; exact ⟨a, ha, hy.symm⟩⟩ hno
    have hpr : ∀ a b, a < n → b < n → (Z a).toNat < (Z b).toNat → pr (Z a).toNat (Z b).toNat = true := fun a b ha hb hab => by
      have hz := hZ a ha
      have hz' := hZ b hb
      cases e : pr (Z a).toNat (Z b).toNat with
      | true => rfl
      | false => exact absurd ⟨[Z a, Z b], con_mem.2 (.inr ⟨hR, .inr ⟨(Z a).toNat, (Z b).toNat, hab, by omega, hal a ha, hal b hb, e, by rw [Int.toNat_of_nonneg hz.1, Int.toNat_of_nonneg hz'.1]⟩⟩), fun y hy => by
        simp at hy
        rcases hy with rfl | rfl
        · exact ⟨a, ha, rfl⟩
        · exact ⟨b, hb, rfl⟩⟩ hno
    obtain ⟨T0, hT0⟩ := h0.1 hR
    refine rdg_two ⟨T0, hT0.tick, hT0.gap, fun i hi => by omega⟩ fun a b ha hb => ?_
    have hz := hZ a ha
    have hz' := hZ b hb
    rw [e2 a ha, e2 b hb]
    rcases Nat.lt_trichotomy (Z a).toNat (Z b).toNat with hlt | heq | hgt
    · obtain ⟨T, hT⟩ := (h2 _ _ (by omega) (by omega)).1 (hpr a b ha hb hlt)
      exact ⟨T, ⟨hT.tick, hT.gap, fun i hi => by omega⟩, hT.mark 0 (by omega), hT.mark 1 (by omega)⟩
    · rw [← heq]
      obtain ⟨T, hT⟩ := (h1 _ (by omega)).1 (hal a ha)
      exact ⟨T, ⟨hT.tick, hT.gap, fun i hi => by omega⟩, hT.mark 0 (by omega), hT.mark 0 (by omega)⟩
    · obtain ⟨T, hT⟩ := (h2 _ _ (by omega) (by omega)).1 (hpr b a hb ha hgt)
      exact ⟨T, ⟨hT.tick, hT.gap, fun i hi => by omega⟩, hT.mark 1 (by omega), hT.mark 0 (by omega)⟩
/-- a list without one of its numbers -/
def dropK (x : List Int) (k : Nat) : List Int := x.take k ++ x.drop (k + 1)
/-- without one of its marks a minimal contradiction does not contradict -/
theorem min_math {d : Drm} {m : Nat} {F : Nat → Int × Int × Int} {L : List (List Int)} (h : ConR d m F L) {x : List Int} (hx : x ∈ L) {k : Nat} (hk : k < x.length) {Z : Nat → Int} (hZ : ∀ i, i < (dropK x k).length → Z i = (dropK x k).getD i 0) : (∃ T, Rdg d.n (gapF d) (pkL F m Z (dropK x k).length).length (lsF (pkL F m Z (dropK x k).length)) T) ∧ ∀ i, i < (dropK x k).length → 0 ≤ Z i ∧ Z i < m := by
  have h' := h
  obtain ⟨R0, al, pr, rfl, h0, h1, h2⟩ := h
  rcases con_mem.1 hx with ⟨_, rfl⟩ | ⟨kR, ⟨i, k1, k2, rfl⟩ | ⟨i, j, k1, k2, k3, k4, k5, rfl⟩⟩
  · simp at hk
  · obtain rfl : k = 0 := by simp at hk; omega
    have e : dropK [(i : Int)] 0 = [] := rfl
    rw [e] at hZ ⊢
    obtain ⟨T, hT⟩ := h0.1 kR
    exact ⟨⟨T, hT.tick, hT.gap, fun i hi => absurd hi (Nat.not_lt_zero _)⟩, fun i hi => absurd hi (Nat.not_lt_zero _)⟩
  · have key : ∀ a, a < m → al a = true → dropK [(i : Int), (j : Int)] k = [(a : Int)] → (∃ T, Rdg d.n (gapF d) (pkL F m Z (dropK [(i : Int), (j : Int)] k).length).length (lsF (pkL F m Z (dropK [(i : Int), (j : Int)] k).length)) T) ∧ ∀ q, q < (dropK [(i : Int), (j : Int)] k).length → 0 ≤ Z q ∧ Z q < m := fun a ha hal e => by
      rw [e] at hZ ⊢
      have hz0 := hZ 0 (by simp)
      simp at hz0
      have hr : ∀ i, i < [(a : Int)].length → 0 ≤ Z i ∧ Z i < m := fun i hi => by
        obtain rfl : i = 0 := by simp at hi; omega
        omega
      refine ⟨?_, hr⟩
      obtain ⟨e1, e2⟩ := pkL_len_ok (F := F) hr
      rw [e1]
      obtain ⟨T, hT⟩ := (h1 a ha).1 hal
      refine ⟨T, hT.tick, hT.gap, fun q hq => ?_⟩
      obtain rfl : q = 0 := by simp at hq; omega
      rw [e2 0 hq, hz0, Int.toNat_natCast]
      exact hT.mark 0 (by omega)
    have hk2 : k < 2 := hk
    by_cases e : k = 0
    · subst e; exact key j k2 k4 rfl
    · obtain rfl : k = 1 := by omega
      exact key i (by omega) k3 rfl
end Go.Proofs.Ytpikaohodieeaaa
