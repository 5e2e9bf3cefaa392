/- The mathematics of ClocksDrops: what drops are. -/
import Derived.Test.YtpikaohodieeaaaMnm
namespace Go.Proofs.Ytpikaohodieeaaa
open Go.RowKit
set_option linter.unusedSimpArgs false
set_option linter.unusedVariables false
theorem any_no {n : Nat} {Z : Nat → Int} {k : Int} : (List.range n).any (fun i => Z i == k) = false ↔ ∀ a, a < n → Z a ≠ k := by
  cases e : (List.range n).any (fun i => Z i == k) with
  | true => exact ⟨fun h => (by cases h), fun h => by obtain ⟨i, hi, e2⟩ := (any_iff n Z k).1 e; exact absurd e2 (h i hi)⟩
  | false => exact ⟨fun _ a ha e2 => (by rw [(any_iff n Z k).2 ⟨a, ha, e2⟩] at e; cases e), fun _ => rfl⟩
/-- which marks are kept -/
theorem wtL_mem {F : Nat → Int × Int × Int} {n : Nat} {Z : Nat → Int} {y : Int × Int × Int} : ∀ k, y ∈ wtL F n Z k ↔ ∃ i : Nat, i < k ∧ (∀ a, a < n → Z a ≠ (i : Int)) ∧ F i = y
  | 0 => ⟨fun h => (by cases h), fun ⟨i, hi, _⟩ => absurd hi (Nat.not_lt_zero _)⟩
  | k + 1 => by
    have ih := wtL_mem (F := F) (n := n) (Z := Z) (y := y) k
    have e : wtL F n Z (k + 1) = if (List.range n).any (fun i => Z i == (k : Int)) = true then wtL F n Z k else wtL F n Z k ++ [F k] := rfl
    rw [e]
    cases hb : (List.range n).any (fun i => Z i == (k : Int)) with
    | true =>
      rw [if_pos rfl, ih]
      obtain ⟨b, hb1, hb2⟩ := (any_iff n Z k).1 hb
      refine ⟨fun ⟨i, h1, h2⟩ => ⟨i, by omega, h2⟩, fun ⟨i, h1, h2, h3⟩ => ⟨i, ?_, h2, h3⟩⟩
      by_cases hik : i = k
      · subst hik; exact absurd hb2 (h2 b hb1)
      · omega
    | false =>
      rw [if_neg (by decide), List.mem_append, ih, List.mem_singleton]
      constructor
      · rintro (⟨i, h1, h2⟩ | rfl)
        · exact ⟨i, by omega, h2⟩
        · exact ⟨k, by omega, any_no.1 hb, rfl⟩
      · rintro ⟨i, h1, h2, rfl⟩
        by_cases hik : i = k
        · subst hik; exact .inr rfl
        · exact .inl ⟨i, by omega, h2, rfl⟩
theorem lsF_mem {L : List (Int × Int × Int)} {i : Nat} (hi : i < L.length) : lsF L i ∈ L := by
  unfold lsF
  rw [List.getD_eq_getElem?_getD, List.getElem?_eq_getElem hi]
  exact List.getElem_mem hi
theorem lsF_ix {L : List (Int × Int × Int)} {y : Int × Int × Int} (hy : y ∈ L) : ∃ i, i < L.length ∧ lsF L i = y := by
  obtain ⟨i, hi, e⟩ := List.getElem_of_mem hy
  refine ⟨i, hi, ?_⟩
  unfold lsF
  rw [List.getD_eq_getElem?_getD, List.getElem?_eq_getElem hi]
  exact e
/-- without some marks there is a reading if and only if they hit each minimal contradiction -/
theorem wt_math {d : Drm} {m : Nat} {F : Nat → Int × Int × Int} {P : List (List Int)} (h : ConR d m F P) (hT0 : ∃ T, Rdg d.n (gapF d) 0 F T) {n : Nat} {Z : Nat → Int} : (∃ T, Rdg d.n (gapF d) (wtL F n Z m).length (lsF (wtL F n Z m)) T) ↔ ∀ x, x ∈ P → ∃ y, y ∈ x ∧ ∃ a, a < n ∧ Z a = y := by
  obtain ⟨R0, al, pr, rfl, h0, h1, h2⟩ := h
  have hR : R0 = true := h0.2 hT0
  constructor
  · rintro ⟨T, hT⟩ x hx
    have hm : ∀ i, i < m → (∀ a, a < n → Z a ≠ (i : Int)) → hasP (F i).2 (T (F i).1.toNat) := fun i hi hn => by
      obtain ⟨q, hq, e⟩ := lsF_ix ((wtL_mem (F := F) (n := n) (Z := Z) m).2 ⟨i, hi, hn, rfl⟩)
      have := hT.mark q hq
      rwa [e] at this
    have hin : ∀ i : Nat, (¬ ∃ a, a < n ∧ Z a = (i : Int)) → ∀ a, a < n → Z a ≠ (i : Int) := fun i hn a ha e => hn ⟨a, ha, e⟩
    rcases con_mem.1 hx with ⟨k, rfl⟩ | ⟨_, ⟨i, k1, k2, rfl⟩ | ⟨i, j, k1, k2, k3, k4, k5, rfl⟩⟩
    · rw [hR] at k; cases k
    · by_cases e : ∃ a, a < n ∧ Z a = (i : Int)
      · exact ⟨(i : Int), by simp, e⟩
      · rw [(h1 i k1).2 ⟨T, hT.tick, hT.gap, fun k _ => hm i k1 (hin i e)⟩] at k2
        cases k2
    · by_cases e : ∃ a, a < n ∧ Z a = (i : Int)
      · exact ⟨(i : Int), by simp, e⟩
      · by_cases e' : ∃ a, a < n ∧ Z a = (j : Int)
        · exact ⟨(j : Int), by simp, e'⟩
        · rw [(h2 i j (by omega) k2).2 ⟨T, hT.tick, hT.gap, fun k _ => by
            unfold two3
            by_cases e3 : k = 0
            · rw [if_pos e3]; exact hm i (by omega) (hin i e)
            · rw [if_neg e3]; exact hm j k2 (hin j e')⟩] at k5
          cases k5
  · intro hx
    have hal : ∀ i, i < m → (∀ a, a < n → Z a ≠ (i : Int)) → al i = true := fun i hi hn => by
      cases e : al i with
      | true => rfl
      | false =>
        obtain ⟨y, hy, a, ha, ea⟩ := hx [(i : Int)] (con_mem.2 (.inr ⟨hR, .inl ⟨i, hi, e, rfl⟩⟩))
        simp at hy
        exact absurd (ea.trans hy) (hn a ha)
    have hpr : ∀ i j, i < j → j < m → (∀ a, a < n → Z a ≠ (i : Int)) → (∀ a, a < n → Z a ≠ (j : Int)) → pr i j = true := fun i j hij hj hn hn' => by
      cases e : pr i j with
      | true => rfl
      | false =>
        obtain ⟨y, hy, a, ha, ea⟩ := hx [(i : Int), (j : Int)] (con_mem.2 (.inr ⟨hR, .inr ⟨i, j, hij, hj, hal i (by omega) hn, hal j hj hn', e, rfl⟩⟩))
        simp at hy
        rcases hy with hy | hy
        · exact absurd (ea.trans hy) (hn a ha)
        · exact absurd (ea.trans hy) (hn' a ha)
    obtain ⟨T0, hT0⟩ := hT0
    refine rdg_two ⟨T0, hT0.tick, hT0.gap, fun i hi => by omega⟩ fun a b ha hb => ?_
    obtain ⟨i, hi, hni, ei⟩ := (wtL_mem m).1 (lsF_mem ha)
    obtain ⟨j, hj, hnj, ej⟩ := (wtL_mem m).1 (lsF_mem hb)
    rw [← ei, ← ej]
    rcases Nat.lt_trichotomy i j with hlt | heq | hgt
    · obtain ⟨T, hT⟩ := (h2 i j hi hj).1 (hpr i j hlt hj hni hnj)
      exact ⟨T, ⟨hT.tick, hT.gap, fun i hi => by omega⟩, hT.mark 0 (by omega), hT.mark 1 (by omega)⟩
    · subst heq
      obtain ⟨T, hT⟩ := (h1 i hi).1 (hal i hi hni)
      exact ⟨T, ⟨hT.tick, hT.gap, fun i hi => by omega⟩, hT.mark 0 (by omega), hT.mark 0 (by omega)⟩
    · obtain ⟨T, hT⟩ := (h2 j i hj hi).1 (hpr j i hgt hi hnj hni)
      exact ⟨T, ⟨hT.tick, hT.gap, fun i hi => by omega⟩, hT.mark 1 (by omega), hT.mark 0 (by omega)⟩
theorem inc_len {c : Nat} : ∀ (l : List Nat) (lo : Nat), l.Pairwise (· < ·) → (∀ x, x ∈ l → lo ≤ x ∧ x < c) → l = [] ∨ l.length + lo ≤ c
  | [], _, _, _ => .inl rfl
  | a :: t, lo, hp, hb => by
    rw [List.pairwise_cons] at hp
    have ha := hb a (by simp)
    rcases inc_len t (a + 1) hp.2 (fun x hx => ⟨hp.1 x hx, (hb x (by simp [hx])).2⟩) with rfl | h
    · right; simp only [List.length_cons, List.length_nil]; omega
    · right; rw [List.length_cons]; omega
/-- a rising list is among those of its length -/
theorem inc_ext {c : Nat} : ∀ (l : List Nat) (lo : Nat), l.Pairwise (· < ·) → (∀ x, x ∈ l → lo ≤ x ∧ x < c) → l.map (fun (i : Nat) => (i : Int)) ∈ ext c l.length lo
  | [], _, _, _ => by simp [ext]
  | a :: t, lo, hp, hb => by
    have hl := inc_len (a :: t) a hp fun x hx => ⟨by
      rw [List.pairwise_cons] at hp
      rcases List.mem_cons.1 hx with rfl | h
      · exact Nat.le_refl _
      · exact Nat.le_of_lt (hp.1 x h), (hb x hx).2⟩
    rw [List.pairwise_cons] at hp
    have ha := hb a (by simp)
    have ih := inc_ext t (a + 1) hp.2 (fun x hx => ⟨hp.1 x hx, (hb x (by simp [hx])).2⟩)
    have hl : t.length + 1 + a ≤ c := by
      rcases hl with h | h
      · cases h
      · rw [List.length_cons] at h; exact h
    rw [List.length_cons, List.map_cons]
    simp only [ext, List.mem_flatMap, List.mem_map, List.mem_range]
    refine ⟨a - lo, by omega, t.map (fun (i : Nat) => (i : Int)), ?_, ?_⟩
    · rw [show lo + (a - lo) + 1 = a + 1 by omega]; exact ih
    · rw [show lo + (a - lo) = a by omega]
/-- the numbers of a set, below m -/
def cntL (n : Nat) (Z : Nat → Int) (m : Nat) : List Nat := (List.range m).filter fun i => (List.range n).any (fun a => Z a == (i : Int))
theorem cntL_succ (n : Nat) (Z : Nat → Int) (m : Nat) : (cntL n Z (m + 1)).length = (cntL n Z m).length + if (List.range n).any (fun a => Z a == (m : Int)) = true then 1 else 0 := by
  unfold cntL
  rw [List.range_succ, List.filter_append, List.length_append]
  cases h : (List.range n).any (fun a => Z a == (m : Int)) <;> simp [h]
/-- what Drops asks -/
theorem drops_math {d : Drm} {m k : Nat} {F : Nat → Int × Int × Int} {P L : List (List Int)} (h : ConR d m F P) (hT0 : ∃ T, Rdg d.n (gapF d) 0 F T) (hL : L = dL P m k) (hmin : ∀ j, j < k → dL P m j = []) :
    (∀ s, s ∈ L → s.length = k ∧ (∃ T, Rdg d.n (gapF d) (wtL F s.length (fun i => s.getD i 0) m).length (lsF (wtL F s.length (fun i => s.getD i 0) m)) T) ∧ ∀ x, x ∈ P → ∃ y, y ∈ x ∧ ∃ a, a < s.length ∧ s.getD a 0 = y) ∧
    ∀ n Z, (∃ T, Rdg d.n (gapF d) (wtL F n Z m).length (lsF (wtL F n Z m)) T) → k ≤ (cntL n Z m).length := by
  have hd : ∀ j s, s ∈ dL P m j ↔ s ∈ ext m j 0 ∧ ∀ x, x ∈ P → meets s x := fun j s => by
    unfold dL
    rw [List.mem_filter]
    simp only [decide_eq_true_eq]
  have hit : ∀ s x, meets s x → ∃ y, y ∈ x ∧ ∃ a, a < s.length ∧ s.getD a 0 = y := fun s x ⟨i, hi, j, hj, e⟩ => ⟨x.getD j 0, by rw [List.getD_eq_getElem?_getD, List.getElem?_eq_getElem hj]; exact List.getElem_mem hj, i, hi, e.symm⟩
  refine ⟨fun s hs => ?_, fun n Z hf => ?_⟩
  · rw [hL, hd] at hs
    have hh := fun x hx => hit s x (hs.2 x hx)
    exact ⟨ext_len m k 0 s hs.1, (wt_math h hT0).2 hh, hh⟩
  · have hx := (wt_math h hT0).1 hf
    have hr : (cntL n Z m).Pairwise (· < ·) := List.Pairwise.filter _ List.pairwise_lt_range
    have hb : ∀ x, x ∈ cntL n Z m → 0 ≤ x ∧ x < m := fun x hx => ⟨Nat.zero_le _, by unfold cntL at hx; rw [List.mem_filter, List.mem_range] at hx; exact hx.1⟩
    have hmem := inc_ext (cntL n Z m) 0 hr hb
    have hin : (cntL n Z m).map (fun (i : Nat) => (i : Int)) ∈ dL P m (cntL n Z m).length := by
      rw [hd]
      refine ⟨hmem, fun x hxP => ?_⟩
      obtain ⟨y, hy, a, ha, ea⟩ := hx x hxP
      obtain ⟨i, him, rfl⟩ : ∃ i : Nat, i < m ∧ y = (i : Int) := by
        obtain ⟨R0, al, pr, rfl, _⟩ := h
        rcases con_mem.1 hxP with ⟨_, rfl⟩ | ⟨_, ⟨i, k1, k2, rfl⟩ | ⟨i, j, k1, k2, k3, k4, k5, rfl⟩⟩
        · cases hy
        · simp at hy; exact ⟨i, k1, hy⟩
        · simp at hy
          rcases hy with hy | hy
          · exact ⟨i, by omega, hy⟩
          · exact ⟨j, k2, hy⟩
      have hc : i ∈ cntL n Z m := by
        unfold cntL
        rw [List.mem_filter, List.mem_range]
        exact ⟨him, (any_iff n Z i).2 ⟨a, ha, ea⟩⟩
      obtain ⟨p, hp, ep⟩ := List.getElem_of_mem hc
      obtain ⟨q, hq, eq⟩ := List.getElem_of_mem hy
      refine ⟨p, by rw [List.length_map]; exact hp, q, hq, ?_⟩
      rw [List.getD_eq_getElem?_getD, List.getElem?_eq_getElem hq, List.getD_eq_getElem?_getD, List.getElem?_map, List.getElem?_eq_getElem hp]
      simp [eq, ep]
    by_cases hk : k ≤ (cntL n Z m).length
    · exact hk
    · rw [hmin _ (by omega)] at hin
      cases hin
end Go.Proofs.Ytpikaohodieeaaa
