/- Runs: the mathematics, rows of spans, Stuck of both. -/
import Derived.Test.YtkidhmajlpceeaaMts
import Derived.Test.YtkidhmajlpceeaaRtm
namespace Go.Proofs.Ytkidhmajlpceeaa
open Go.RowKit
/-- the runs that have ended ahead of the one that holds an index -/
def sO (Z : Nat → Int) : Nat → List (Int × Int)
  | 0 => []
  | j + 1 => if Z (j + 1) = Z j then sO Z j else if tlast Z j < j then sO Z j ++ [((tlast Z j : Int), (j : Int))] else sO Z j
def stuckL (Z : Nat → Int) (n : Nat) : List (Int × Int) := if tlast Z (n - 1) < n - 1 then sO Z (n - 1) ++ [((tlast Z (n - 1) : Int), ((n - 1 : Nat) : Int))] else sO Z (n - 1)
theorem sO_len (Z : Nat → Int) : ∀ j, (sO Z j).length ≤ j
  | 0 => Nat.le_refl _
  | j + 1 => by
    have ih := sO_len Z j
    unfold sO
    split
    · omega
    · split
      · rw [List.length_append, List.length_singleton]; omega
      · omega
/-- along a run -/
theorem run_on {Z : Nat → Int} {i : Nat} (hi : tlast Z i = i) : ∀ d, (∀ j, i ≤ j → j ≤ i + d → Z j = Z i) → tlast Z (i + d) = i ∧ sO Z (i + d) = sO Z i
  | 0, _ => ⟨hi, rfl⟩
  | d + 1, h => by
    obtain ⟨h1, h2⟩ := run_on hi d fun j a b => h j a (by omega)
    have e : Z (i + d + 1) = Z (i + d) := (h _ (by omega) (by omega)).trans (h _ (by omega) (by omega)).symm
    refine ⟨?_, ?_⟩
    · show (if Z (i + d + 1) = Z (i + d) then tlast Z (i + d) else _) = i
      rw [if_pos e, h1]
    · show (if Z (i + d + 1) = Z (i + d) then sO Z (i + d) else _) = _
      rw [if_pos e, h2]
/-- a run that ends ahead of the last index -/
theorem run_end {Z : Nat → Int} {i k : Nat} (hi : tlast Z i = i) (hk : i ≤ k) (h : ∀ j, i ≤ j → j ≤ k → Z j = Z i) (hn : Z (k + 1) ≠ Z i) :
    tlast Z (k + 1) = k + 1 ∧ (i < k → sO Z (k + 1) = sO Z i ++ [((i : Int), (k : Int))]) ∧ (¬ i < k → sO Z (k + 1) = sO Z i) := by
  obtain ⟨d, rfl⟩ : ∃ d, k = i + d := ⟨k - i, by omega⟩
  obtain ⟨h1, h2⟩ := run_on hi d h
  have hne : ¬ Z (i + d + 1) = Z (i + d) := fun e => hn (e.trans (h _ (by omega) (Nat.le_refl _)))
  refine ⟨if_neg hne, fun hd => ?_, fun hd => ?_⟩
  · show (if Z (i + d + 1) = Z (i + d) then _ else if tlast Z (i + d) < i + d then sO Z (i + d) ++ [((tlast Z (i + d) : Int), ((i + d : Nat) : Int))] else _) = _
    rw [if_neg hne, h1, if_pos hd, h2]
  · show (if Z (i + d + 1) = Z (i + d) then _ else if tlast Z (i + d) < i + d then _ else sO Z (i + d)) = _
    rw [if_neg hne, h1, if_neg hd, h2]
/-- the last run -/
theorem run_last {Z : Nat → Int} {i n : Nat} (hi : tlast Z i = i) (hk : i < n) (h : ∀ j, i ≤ j → j < n → Z j = Z i) :
    (i < n - 1 → stuckL Z n = sO Z i ++ [((i : Int), ((n - 1 : Nat) : Int))]) ∧ (¬ i < n - 1 → stuckL Z n = sO Z i) := by
  obtain ⟨d, hd⟩ : ∃ d, n - 1 = i + d := ⟨n - 1 - i, by omega⟩
  obtain ⟨h1, h2⟩ := run_on hi d fun j a b => h j a (by omega)
  unfold stuckL
  rw [hd, h1, h2]
  exact ⟨fun a => if_pos a, fun a => if_neg a⟩
/-- a row of pairs of one's own, by its list -/
structure RowP (w : World) (t : TypeId) (L : List (Int × Int)) (v : Value) (wr : World) : Prop where
  below : Below w.heap.size w wr
  own : wr.ownsRow w.heap.size t 2 v L.length (flatM L)
theorem RowP.app {w wr W w1 : World} {t : TypeId} {L : List (Int × Int)} {v v' : Value} {x y : Int} (h : RowP w t L v wr) (hb : Below wr.heap.size wr W) (hg : W.grownBy w1 v.ownBlock)
    (h' : w1.ownsRow w.heap.size t 2 v' (L.length + 1) (flatM L ++ [.int .i64 x, .int .i64 y])) : RowP w t (L ++ [(x, y)]) v' w1 := by
  have s0 := h.below.size
  have s1 := hb.size
  refine ⟨(h.below.trans (hb.mono s0)).grown hg (by omega) (fun r e => (own_block h.own e).1), ?_⟩
  rw [flatM_snoc, List.length_append, List.length_singleton]
  exact h'
theorem RowP.up {w wr W : World} {t : TypeId} {L : List (Int × Int)} {v : Value} (h : RowP w t L v wr) (hb : Below wr.heap.size wr W) : RowP w t L v W :=
  ⟨nextB h.below hb, own_keep h.own hb⟩
theorem SameSpans_0 (A B : Option Addr) (c d : Nat) (w : World) : Calls Try.prog 43 #[.slice A 0 c, .slice B 0 d] w fun e w' => e = .returned (.bool true) ∧ Below w.heap.size w w' := by
  go_enter Try.func43, Try.ntmps43
  go_wp2_with fail
  go_loopw [5] (fun i wr => i = .int .i64 0 ∧ wr = w) (fun _ _ => 0)
  case atStart => exact ⟨rfl, rfl⟩
  case round =>
    obtain ⟨rfl, rfl⟩ := hrel
    go_wp2_with fail
    go_ret
    exact ⟨rfl, Below.refl _ _⟩
theorem own_SpR {w : World} {B g : Nat} {L : List (Int × Int)} {cap : Nat} (h : w.ownsRow B 23 2 (.slice (some ⟨g, 0, none⟩) L.length cap) L.length (flatM L)) : SpR g L.length (fun i => L.getD i (0, 0)) w := by
  have hc := h.cells (g := g) rfl
  have hg : ∀ i, i < L.length → L[i]? = some (L.getD i (0, 0)) := fun i hi => by simp [List.getD, hi]
  obtain ⟨h0, hx | ⟨g', cap', cur, e1, e2, e3, e4⟩⟩ := h
  · exact absurd hx.1 (by simp)
  · cases e1
    refine ⟨(Array.getElem?_eq_some_iff.1 e3).1, fun i hi => ?_, fun i hi => ?_, fun o => by simp [World.frozen?, e3]⟩
    · have h1 := hc _ _ (flatM_at L i _ (hg i hi)).1
      rwa [Addr.add_lit, Nat.zero_add] at h1
    · have h1 := hc _ _ (flatM_at L i _ (hg i hi)).2
      rwa [Addr.add_lit, Nat.zero_add] at h1
theorem SameSpans_row (L : List (Int × Int)) (v1 v2 : Value) (B1 B2 : Nat) (w : World) (hl : L.length ≤ 1000) (h1 : w.ownsRow B1 23 2 v1 L.length (flatM L)) (h2 : w.ownsRow B2 23 2 v2 L.length (flatM L)) :
    Calls Try.prog 43 #[v1, v2] w fun e w' => e = .returned (.bool true) ∧ Below w.heap.size w w' := by
  have hv : ∀ {B : Nat} {v : Value}, w.ownsRow B 23 2 v L.length (flatM L) → (v = .slice none 0 0 ∧ L.length = 0) ∨ ∃ g cap, v = .slice (some ⟨g, 0, none⟩) L.length cap := fun {B v} h => by
    obtain ⟨h0, hx | ⟨g', cap', cur, e1, _⟩⟩ := h
    · exact .inl ⟨by rw [hx.1], by simpa using hx.2⟩
    · exact .inr ⟨g', cap', e1⟩
  by_cases h0 : L.length = 0
  · rcases hv h1 with ⟨e1, _⟩ | ⟨g, cap, e1⟩ <;> rcases hv h2 with ⟨e2, _⟩ | ⟨g', cap', e2⟩ <;> rw [e1, e2] <;> (try rw [h0]) <;> exact SameSpans_0 _ _ _ _ w
  · rcases hv h1 with ⟨_, e⟩ | ⟨g, cap, e1⟩
    · exact absurd e h0
    · rcases hv h2 with ⟨_, e⟩ | ⟨g', cap', e2⟩
      · exact absurd e h0
      · subst e1
        subst e2
        exact SameSpans_t _ g g' cap cap' _ _ w hl (own_SpR h1) (own_SpR h2) fun _ _ => rfl
end Go.Proofs.Ytkidhmajlpceeaa
