import Derived.Test.YtkidhmajlpceeaaLaw
namespace Go.Proofs.Ytkidhmajlpceeaa
open Go.RowKit
/-! the document's examples, as 'awake' asks them -/
instance (p : Pn) (f : Int) (Z : Nat → Int) : ∀ k, Decidable (okAt p f Z k)
  | 0 => inferInstanceAs (Decidable (-p.b ≤ Z 0 - f ∧ Z 0 - f ≤ p.b))
  | k + 1 => inferInstanceAs (Decidable (-p.r ≤ Z (k + 1) - Z k ∧ Z (k + 1) - Z k ≤ p.r))
abbrev litB (w : World) (l : List Int) : World := w.alloc (.cells (intsZ l).toArray 3)
abbrev litV (N k : Nat) : Value := .slice (some ⟨N, 0, none⟩) k k
abbrev P1 : Pn := ⟨3, 0, 2, 5⟩
theorem P1_ok : P1.Ok := ⟨by decide, by decide, by decide, by decide, by decide⟩
theorem below_lit {w w' : World} {l : List Int} (h : Below (litB w l).heap.size (litB w l) w') : Below w.heap.size w w' := (box1 _ _).trans (h.mono (box1 _ _).size)
theorem ex_follow (w : World) (N : Nat) (hN : N = w.heap.size) : Calls Try.prog 25 #[P0.v, .int .i64 10, litV N 5] (litB w [10, 12, 13, 11, 8]) fun e w' =>
    ∃ v, e = .returned (.tuple #[v, .int .i64 0]) ∧ (∃ B, w'.ownsRow B 3 1 v 5 (intsZ [10, 10, 11, 11, 10])) ∧ Below w.heap.size w w' := by
  subst hN
  refine (Follow_any P0 10 _ 5 5 (asZ [10, 12, 13, 11, 8]) 0 _ (lit_ints w [10, 12, 13, 11, 8] (by decide)) (.inr ⟨P0_ok, .inr ⟨by unfold Lev; decide, .inr ⟨ls_lit [10, 12, 13, 11, 8] (by decide) (by decide), .inl ⟨by decide, rfl⟩⟩⟩⟩)).mono ?_
  rintro e w' ⟨h, _⟩
  obtain ⟨v, rfl, hr⟩ := h rfl
  have e1 : upTo (shw P0.b 10 (asZ [10, 12, 13, 11, 8])) 5 = [10, 10, 11, 11, 10] := by decide
  rw [e1] at hr
  exact ⟨v, rfl, ⟨_, hr.own⟩, below_lit hr.below⟩
theorem ex_reals (w : World) (N : Nat) (hN : N = w.heap.size) : Calls Try.prog 35 #[P0.v, litV N 2] (litB w [10, 14]) fun e w' =>
    ∃ g cap, e = .returned (.tuple #[.slice (some ⟨g, 0, none⟩) 2 cap, .int .i64 0]) ∧ SpR g 2 (Rls P0 (asZ [10, 14]) 2) w' ∧ Below w.heap.size w w' := by
  subst hN
  refine (Reals_any P0 _ 2 2 (asZ [10, 14]) 0 _ (lit_ints w [10, 14] (by decide)) (.inr ⟨P0_ok, .inr ⟨ls_lit [10, 14] (by decide) (by decide), .inr ⟨by unfold Ful; decide, rfl⟩⟩⟩)).mono ?_
  rintro e w' ⟨h, _⟩
  obtain ⟨g, cap, rfl, _, hs, hb⟩ := h rfl
  exact ⟨g, cap, rfl, hs, below_lit hb⟩
theorem ex_real (w : World) (N : Nat) (hN : N = w.heap.size) : Calls Try.prog 41 #[P0.v, litV N 3] (litB w [10, 10, 11]) fun e w' =>
    ∃ A c, e = .returned (.tuple #[.slice A 3 c, .int .i64 0]) ∧ IntsIn A 3 (asZ [10, 10, 13]) w'.heap.size w' ∧ Below w.heap.size w w' := by
  subst hN
  refine (Real_any P0 _ 3 3 (asZ [10, 10, 11]) 0 _ (lit_ints w [10, 10, 11] (by decide)) (.inr ⟨P0_ok, .inr ⟨ls_lit [10, 10, 11] (by decide) (by decide), .inr ⟨by unfold Ful; decide, rfl⟩⟩⟩)).mono ?_
  rintro e w' ⟨h, _⟩
  obtain ⟨A, c, rfl, hs, hb⟩ := h rfl
  have e1 : ∀ i, i < 3 → Cz (fun x y z => max x (min y z)) (Rls P0 (asZ [10, 10, 11]) 3) (asZ [10, 10, 11]) i = asZ [10, 10, 13] i := by decide
  exact ⟨A, c, rfl, ⟨hs.1, fun i hi => by rw [← e1 i hi]; exact hs.2 i hi⟩, below_lit hb⟩
theorem ex_forgets (w : World) (N : Nat) (hN : N = w.heap.size) : Calls Try.prog 52 #[P0.v, litV N 4] (litB w [10, 13, 14, 9]) fun e w' =>
    e = .returned (.tuple #[.int .i64 2, .int .i64 0]) ∧ Below w.heap.size w w' := by
  subst hN
  refine (Forgets_ok P0 _ 4 4 (asZ [10, 13, 14, 9]) _ (lit_ints w [10, 13, 14, 9] (by decide)) 2 2 0 P0_ok (ls_lit [10, 13, 14, 9] (by decide) (by decide)) (by unfold RateOk; decide) ⟨by decide, by decide, by decide⟩ (.inl ⟨by decide, rfl, rfl⟩)).mono ?_
  rintro e w' ⟨rfl, hb⟩
  exact ⟨rfl, below_lit hb⟩
theorem ex_memory (w : World) (N : Nat) (hN : N = w.heap.size) : Calls Try.prog 54 #[P0.v, litV N 4] (litB w [9, 14, 10, 13]) fun e w' =>
    ∃ v, e = .returned (.tuple #[v, .int .i64 0]) ∧ (∃ B, w'.ownsRow B 3 1 v 3 (intsZ [1, 2, 3])) ∧ Below w.heap.size w w' := by
  subst hN
  refine (Memory_any P0 _ 4 4 (asZ [9, 14, 10, 13]) 0 _ (lit_ints w [9, 14, 10, 13] (by decide)) (.inr ⟨P0_ok, .inr ⟨ls_lit [9, 14, 10, 13] (by decide) (by decide), rfl⟩⟩)).mono ?_
  rintro e w' ⟨h, _⟩
  obtain ⟨v, rfl, hr⟩ := h rfl
  have e1 : memL P0.b (asZ [9, 14, 10, 13]) 4 = [1, 2, 3] := by decide
  rw [e1] at hr
  exact ⟨v, rfl, ⟨_, hr.own⟩, below_lit hr.below⟩
theorem ex_turns (w : World) (N : Nat) (hN : N = w.heap.size) : Calls Try.prog 50 #[litV N 6] (litB w [1, 3, 3, 2, 5, 5]) fun e w' =>
    ∃ v, e = .returned (.tuple #[v, .int .i64 0]) ∧ (∃ B, w'.ownsRow B 3 1 v 2 (intsZ [1, 3])) ∧ Below w.heap.size w w' := by
  subst hN
  refine (Turns_any _ 6 6 (asZ [1, 3, 3, 2, 5, 5]) 0 _ (lit_ints w [1, 3, 3, 2, 5, 5] (by decide)) (.inl ⟨ls_lit [1, 3, 3, 2, 5, 5] (by decide) (by decide), rfl⟩)).mono ?_
  rintro e w' ⟨h, _⟩
  obtain ⟨v, rfl, hr⟩ := h rfl
  have e1 : turnsL (asZ [1, 3, 3, 2, 5, 5]) 6 = [1, 3] := by decide
  rw [e1] at hr
  exact ⟨v, rfl, ⟨_, hr.own⟩, below_lit hr.below⟩
theorem ex_add (w : World) : Calls Try.prog 56 #[P0.v, P1.v] w fun e w' => e = .returned (.tuple #[Pn.v ⟨5, -1, 3, 5⟩, .int .i64 0]) ∧ Below w.heap.size w w' := by
  refine (Add_any P0 P1 0 w (.inr ⟨⟨P0_ok, P1_ok⟩, .inr ⟨by decide, .inr ⟨⟨by decide, by decide, by decide, by decide, by decide⟩, rfl⟩⟩⟩)).mono ?_
  rintro e w' ⟨rfl, hb⟩
  exact ⟨rfl, hb⟩
theorem ex_moves (w : World) : Calls Try.prog 30 #[P0.v, .int .i64 1] w fun e w' =>
    ∃ A c, e = .returned (.tuple #[.slice A 5 c, .int .i64 0]) ∧ EdsIn A 5 (edgeF P0 1) w'.heap.size w' ∧ Below w.heap.size w w' := by
  refine (Moves_any P0 1 0 w (.inr ⟨P0_ok, .inr ⟨by decide, rfl⟩⟩)).mono ?_
  rintro e w' ⟨h, _⟩
  obtain ⟨A, c, rfl, hs, hb⟩ := h rfl
  exact ⟨A, c, rfl, hs, hb⟩
end Go.Proofs.Ytkidhmajlpceeaa
