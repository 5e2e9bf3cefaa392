import Derived.Test.YtmeljcbefnojfaaSam
namespace Go.Proofs.Ytmeljcbefnojfaa
open Go.RowKit
abbrev P0 : Pap := ⟨100, 1000, 1000, 9600, 10600, 4, 1000, 1000, 1000, 1000⟩
abbrev P1 : Pap := ⟨100, 1000, 1000, 9600, 10600, 4, 900, 1000, 1000, 1000⟩
abbrev P2 : Pap := ⟨1, 1000, 1000, 9600, 10600, 4, 1000, 1000, 900, 1100⟩
abbrev T0 : Pt := ⟨202, 300, 5⟩
abbrev T1 : Pt := ⟨950, 500, 2⟩
abbrev T2 : Pt := ⟨124, 500, 0⟩
theorem ok0 : P0.Ok := ⟨by decide, by decide, by decide, by decide, by decide, by decide, by decide, by decide⟩
theorem ok1 : P1.Ok := ⟨by decide, by decide, by decide, by decide, by decide, by decide, by decide, by decide⟩
theorem ok2 : P2.Ok := ⟨by decide, by decide, by decide, by decide, by decide, by decide, by decide, by decide⟩
theorem okT0 : T0.Ok := ⟨by decide, by decide, by decide⟩
theorem okT1 : T1.Ok := ⟨by decide, by decide, by decide⟩
theorem okT2 : T2.Ok := ⟨by decide, by decide, by decide⟩
theorem aw_arc (w : World) : Calls Try.prog 40 #[P0.v, .int .i64 500] w fun e w' => e = .returned (.tuple #[.int .i64 125, .int .i64 0]) ∧ Below w.heap.size w w' := by
  have := Arc_ok P0 500 w ok0 (by decide)
  rw [show arcOf P0 500 = 125 from by decide] at this
  exact this
theorem aw_hts (w : World) : Calls Try.prog 44 #[P0.v, .int .i64 9850] w fun e w' => e = .returned (.tuple #[.agg #[.int .i64 250, .int .i64 250], .int .i64 0]) ∧ Below w.heap.size w w' := by
  have := Heights_ok P0 9850 w ok0 (by decide)
  rw [show lowst P0 9850 = 250 from by decide, show min (lowst P0 (9850 + 1) - 1) P0.height = 250 from by decide] at this
  exact this
theorem aw_col (w : World) : Calls Try.prog 36 #[P0.v, T0.v] w fun e w' => e = .returned (.tuple #[.agg #[.int .i64 0, .int .i64 1], .int .i64 0]) ∧ Below w.heap.size w w' := by
  have := Columns_some P0 T0 w ok0 okT0 ⟨by decide, by decide⟩
  rw [show cLo P0 T0 = 0 from by decide, show cHi P0 T0 = 1 from by decide] at this
  exact this
theorem aw_cal (w : World) : Calls Try.prog 50 #[P1.v, .int .i64 1000, .int .i64 (-1), T1.v] w fun e w' => e = .returned (.tuple #[Pap.v ⟨100, 1000, 1000, 9600, 10600, 4, 947, 952, 1000, 1000⟩, .int .i64 0]) ∧ Below w.heap.size w w' := by
  have := Calibrate_ok P1 1000 (-1) T1 w ok1 okT1 (by decide) (by decide) ⟨by decide, by decide⟩
  rw [show calP P1 1000 (-1) T1 = ⟨100, 1000, 1000, 9600, 10600, 4, 947, 952, 1000, 1000⟩ from by unfold calP; congr 1] at this
  exact this
theorem cut_of {P : Int → Prop} {lo hi K : Int} (h1 : lo ≤ K) (h2 : K ≤ hi + 1) (hm : ∀ a b, lo ≤ a → a ≤ b → b ≤ hi → P a → P b) (hK : K ≤ hi → P K) (hK' : lo ≤ K - 1 → ¬ P (K - 1)) : Cut P lo hi K := by
  refine ⟨h1, h2, fun y y1 y2 => ⟨fun hy => ?_, fun hy => hm K y h1 hy y2 (hK (by omega))⟩⟩
  rcases Int.lt_or_le y K with h | h
  · exact absurd (hm y (K - 1) y1 (by omega) (by omega) hy) (hK' (by omega))
  · exact h
theorem up_ge {p : Pap} {n lo hi : Int} (h : p.Ok) (h0 : 0 ≤ lo) (h1 : hi ≤ midOf p) : ∀ a b, lo ≤ a → a ≤ b → b ≤ hi → n ≤ arcOf p a → n ≤ arcOf p b :=
  fun a b ha hab hb hp => Int.le_trans hp (arc_up h (by omega) hab (by unfold midOf at h1; omega))
theorem up_gt {p : Pap} {n lo hi : Int} (h : p.Ok) (h0 : 0 ≤ lo) (h1 : hi ≤ midOf p) : ∀ a b, lo ≤ a → a ≤ b → b ≤ hi → n < arcOf p a → n < arcOf p b :=
  fun a b ha hab hb hp => Int.lt_of_lt_of_le hp (arc_up h (by omega) hab (by unfold midOf at h1; omega))
theorem dn_le {p : Pap} {n lo hi : Int} (h : p.Ok) (h0 : midOf p + 1 ≤ lo) (h1 : hi ≤ p.height) : ∀ a b, lo ≤ a → a ≤ b → b ≤ hi → arcOf p a ≤ n → arcOf p b ≤ n :=
  fun a b ha hab hb hp => Int.le_trans (arc_down h (by unfold midOf at h0; omega) hab (by omega)) hp
theorem dn_lt {p : Pap} {n lo hi : Int} (h : p.Ok) (h0 : midOf p + 1 ≤ lo) (h1 : hi ≤ p.height) : ∀ a b, lo ≤ a → a ≤ b → b ≤ hi → arcOf p a < n → arcOf p b < n :=
  fun a b ha hab hb hp => Int.lt_of_le_of_lt (arc_down h (by unfold midOf at h0; omega) hab (by omega)) hp
theorem hl0 : HtsL P0 T0 1 [(295, 305)] := by
  refine .inr ⟨by decide, 295, 306, 501, 501, ⟨.inr ⟨by decide, cut_of (by decide) (by decide) (up_ge ok0 (by decide) (by decide)) (fun _ => by decide) (fun hh => absurd hh (by decide)), cut_of (by decide) (by decide) (up_gt ok0 (by decide) (by decide)) (fun hh => absurd hh (by decide)) (fun _ => by decide)⟩, .inl ⟨by decide, by decide, by decide⟩⟩, by decide⟩
theorem hl2 : HtsL P2 T2 1 [(454, 455), (545, 555)] := by
  refine .inr ⟨by decide, 454, 456, 545, 556, ⟨.inr ⟨by decide, cut_of (by decide) (by decide) (up_ge ok2 (by decide) (by decide)) (fun _ => by decide) (fun hh => absurd hh (by decide)), cut_of (by decide) (by decide) (up_gt ok2 (by decide) (by decide)) (fun _ => by decide) (fun _ => by decide)⟩,
    .inr ⟨by decide, cut_of (by decide) (by decide) (dn_le ok2 (by decide) (by decide)) (fun _ => by decide) (fun _ => by decide), cut_of (by decide) (by decide) (dn_lt ok2 (by decide) (by decide)) (fun hh => absurd hh (by decide)) (fun _ => by decide)⟩⟩, by decide⟩
/-- a row of spans, read -/
def Row1 (w w' : World) (v : Value) (l : List (Int × Int)) : Prop := ∃ g cap, v = .slice (some ⟨g, 0, none⟩) l.length cap ∧ w.heap.size ≤ g ∧ g < w'.heap.size ∧ l.length ≤ cap ∧ cap ≤ maxLen ∧ ∀ i s, l[i]? = some s → w'.cell? ⟨g, i * 2, none⟩ = some (.int .i64 s.1) ∧ w'.cell? ⟨g, i * 2 + 1, none⟩ = some (.int .i64 s.2)
theorem flat_at : ∀ (l : List (Int × Int)) (i : Nat) (s : Int × Int), l[i]? = some s → (flatL l)[i * 2]? = some (.int .i64 s.1) ∧ (flatL l)[i * 2 + 1]? = some (.int .i64 s.2)
  | [], i, s, h => by simp at h
  | q :: l, 0, s, h => by simp at h; subst h; exact ⟨rfl, rfl⟩
  | q :: l, i + 1, s, h => by
    have := flat_at l i s (by simpa using h)
    have e : flatL (q :: l) = .int .i64 q.1 :: .int .i64 q.2 :: flatL l := rfl
    rw [e, show (i + 1) * 2 = i * 2 + 1 + 1 by omega]
    exact this
theorem row1_of {w w' : World} {v : Value} {l : List (Int × Int)} (hl : l ≠ []) (h : RowOf w.heap.size w' v l) : Row1 w w' v l := by
  rcases h with ⟨e, _⟩ | ⟨_, g, cap, rfl, ho⟩
  · exact absurd e hl
  · have hc := ho.cells (g := g) rfl
    obtain ⟨_, hx | ⟨g1, cap1, cur, e1, e2, e3, e4, e5, _⟩⟩ := ho
    · cases hx.1
    · cases e1
      refine ⟨g, cap, rfl, e2, (Array.getElem?_eq_some_iff.1 e3).1, e4, e5, fun i s hs => ?_⟩
      obtain ⟨f1, f2⟩ := flat_at l i s hs
      have a1 := hc _ _ f1
      have a2 := hc _ _ f2
      have ad : ∀ j, (⟨g, 0, none⟩ : Addr).add j = ⟨g, j, none⟩ := fun j => by unfold Addr.add; split <;> simp_all
      rw [ad] at a1 a2
      exact ⟨a1, a2⟩
theorem aw_m0 (w : World) : Calls Try.prog 46 #[P0.v, T0.v, .int .i64 1] w fun e w' => ∃ v, e = .returned (.tuple #[v, .int .i64 0]) ∧ Below w.heap.size w w' ∧ Row1 w w' v [(9895, 9905)] := by
  refine (Means_ok P0 T0 1 _ w ok0 okT0 (by decide) hl0).mono fun e w' h => ?_
  obtain ⟨v, h1, h2, h3⟩ := h
  rw [show meansOf P0 [(295, 305)] = [(9895, 9905)] from by decide] at h3
  exact ⟨v, h1, h2, row1_of (by simp) h3⟩
theorem aw_m2 (w : World) : Calls Try.prog 46 #[P2.v, T2.v, .int .i64 1] w fun e w' => ∃ v, e = .returned (.tuple #[v, .int .i64 0]) ∧ Below w.heap.size w w' ∧ Row1 w w' v [(10054, 10055), (10145, 10155)] := by
  refine (Means_ok P2 T2 1 _ w ok2 okT2 (by decide) hl2).mono fun e w' h => ?_
  obtain ⟨v, h1, h2, h3⟩ := h
  rw [show meansOf P2 [(454, 455), (545, 555)] = [(10054, 10055), (10145, 10155)] from by decide] at h3
  exact ⟨v, h1, h2, row1_of (by simp) h3⟩
end Go.Proofs.Ytmeljcbefnojfaa
