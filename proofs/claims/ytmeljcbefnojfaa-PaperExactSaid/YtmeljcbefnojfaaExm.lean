import Derived.Test.YtmeljcbefnojfaaNrm
namespace Go.Proofs.Ytmeljcbefnojfaa
open Go.RowKit
/-- the heights at which a point may lie in a column -/
def InS (p : Pap) (t : Pt) (c y : Int) : Prop := (hLo p t ≤ y ∧ y ≤ hHi p t) ∧ leastOf p t c ≤ arcOf p y ∧ arcOf p y ≤ greatOf p t c
theorem ins_two {p : Pap} {t : Pt} {c K1 K2 K3 K4 : Int} (hE : Ends p t c K1 K2 K3 K4) (y : Int) : InS p t c y ↔ (K1 ≤ y ∧ y ≤ K2 - 1) ∨ (K3 ≤ y ∧ y ≤ K4 - 1) := by
  have e1 := sc_below hE.below y
  have e2 := sc_above hE.above y
  unfold InS
  rw [e1, e2]
  omega
theorem ends_ord {p : Pap} {t : Pt} {c K1 K2 K3 K4 : Int} (hE : Ends p t c K1 K2 K3 K4) : K1 ≤ K2 - 1 → K3 ≤ K4 - 1 → K2 - 1 < K3 := by
  intro f1 f2
  have e1 := (sc_below hE.below (K2 - 1)).1 ⟨f1, Int.le_refl _⟩
  have e2 := (sc_above hE.above K3).1 ⟨Int.le_refl _, f2⟩
  omega
/-- places along and arcs -/
theorem wit_iff {p : Pap} {t : Pt} {c a : Int} (h : p.Ok) : ((alongLo p t - a) / p.pitch ≤ c ∧ c ≤ (alongHi p t - a) / p.pitch) ↔ leastOf p t c ≤ a ∧ a ≤ greatOf p t c := by
  have hp := h.pitch
  unfold leastOf greatOf
  have e1 : (alongLo p t - a) / p.pitch ≤ c ↔ (alongLo p t - a) / p.pitch < c + 1 := by omega
  rw [e1, Int.ediv_lt_iff_lt_mul (by omega), Int.le_ediv_iff_mul_le (by omega)]
  omega
theorem place_col {p : Pap} {t : Pt} {c a x : Int} (h : p.Ok) (hx : alongLo p t ≤ x ∧ x ≤ alongHi p t) (hc : (x - a) / p.pitch = c) : leastOf p t c ≤ a ∧ a ≤ greatOf p t c := by
  have hp := h.pitch
  refine (wit_iff h).1 ⟨?_, ?_⟩
  · rw [← hc]; exact Int.ediv_le_ediv (by omega) (by omega)
  · rw [← hc]; exact Int.ediv_le_ediv (by omega) (by omega)
/-- no number is left out -/
theorem ivt_up (f : Int → Int) (a v : Int) : ∀ n : Nat, (∀ y, a ≤ y → y < a + n → f (y + 1) ≤ f y + 1) → f a ≤ v → v ≤ f (a + n) → ∃ y, a ≤ y ∧ y ≤ a + n ∧ f y = v := by
  intro n
  induction n with
  | zero => intro _ h1 h2; exact ⟨a, by omega, by omega, by simp at h2; omega⟩
  | succ n ih =>
    intro hs h1 h2
    by_cases h3 : v ≤ f (a + n)
    · obtain ⟨y, y1, y2, y3⟩ := ih (fun y y1 y2 => hs y y1 (by omega)) h1 h3
      exact ⟨y, y1, by omega, y3⟩
    · have := hs (a + n) (by omega) (by omega)
      refine ⟨a + n + 1, by omega, by omega, ?_⟩
      rw [show a + ((n + 1 : Nat) : Int) = a + n + 1 by omega] at h2
      omega
theorem ivt_down (f : Int → Int) (a v : Int) (n : Nat) (hs : ∀ y, a ≤ y → y < a + n → f y ≤ f (y + 1) + 1) (h1 : v ≤ f a) (h2 : f (a + n) ≤ v) : ∃ y, a ≤ y ∧ y ≤ a + n ∧ f y = v := by
  obtain ⟨y, y1, y2, y3⟩ := ivt_up (fun y => -f y) a (-v) n (fun y y1 y2 => by have := hs y y1 y2; show -f (y + 1) ≤ -f y + 1; omega) (by show -f a ≤ -v; omega) (by show -v ≤ -f (a + n); omega)
  exact ⟨y, y1, y2, by omega⟩
theorem ivt {p : Pap} (h : p.Ok) {a b v : Int} (ha : 0 ≤ a) (hab : a ≤ b) (hb : b ≤ p.height) (hv : (arcOf p a ≤ v ∧ v ≤ arcOf p b) ∨ (v ≤ arcOf p a ∧ arcOf p b ≤ v)) : ∃ y, a ≤ y ∧ y ≤ b ∧ arcOf p y = v := by
  obtain ⟨n, rfl⟩ : ∃ n : Nat, b = a + n := ⟨(b - a).toNat, by omega⟩
  rcases hv with ⟨h1, h2⟩ | ⟨h1, h2⟩
  · exact ivt_up (arcOf p) a v n (fun y y1 y2 => by have := (arc_step h (y := y) (by omega)).1; omega) h1 h2
  · exact ivt_down (arcOf p) a v n (fun y y1 y2 => by have := (arc_step h (y := y) (by omega)).2; omega) h1 h2
theorem alongLo_le {p : Pap} {t : Pt} (h : p.Ok) (ht : t.Ok) : alongLo p t ≤ alongHi p t := by
  have h7 := h.along
  have hx := ht.x
  have hh := ht.half
  unfold alongLo alongHi prLo prHi
  have h1 : (t.x - t.half) * 1000 / p.ah ≤ (t.x + t.half) * 1000 / p.ah := Int.ediv_le_ediv (by omega) (by omega)
  have h2 := div_anti (a := (t.x + t.half) * 1000) (b := p.ah) (b' := p.al) (by omega) (by omega) (by omega)
  have h3 : 0 ≤ (t.x + t.half) * 1000 / p.al := Int.ediv_nonneg (by omega) (by omega)
  omega
/-- the columns of a point are those in which it has a height -/
theorem cols_iff {p : Pap} {t : Pt} {c : Int} (h : p.Ok) (ht : t.Ok) (hc : 0 ≤ c ∧ c ≤ p.cols - 1) : (∃ y, InS p t c y) ↔ (ColSome p t ∧ cLo p t ≤ c ∧ c ≤ cHi p t) := by
  have hp := h.pitch
  have hw : ∀ a, (alongLo p t - a) / p.pitch ≤ c ↔ leastOf p t c ≤ a := by
    intro a
    have e1 : (alongLo p t - a) / p.pitch ≤ c ↔ (alongLo p t - a) / p.pitch < c + 1 := by omega
    rw [e1, Int.ediv_lt_iff_lt_mul (by omega)]
    unfold leastOf
    omega
  have hw2 : ∀ a, c ≤ (alongHi p t - a) / p.pitch ↔ a ≤ greatOf p t c := by
    intro a
    rw [Int.le_ediv_iff_mul_le (by omega)]
    unfold greatOf
    omega
  have key : hLo p t ≤ p.height → ((cLo p t ≤ c ∧ c ≤ cHi p t) ↔ (leastOf p t c ≤ arHi p (hLo p t) (hHi p t) ∧ arLo p (hLo p t) (hHi p t) ≤ greatOf p t c)) := by
    intro _
    rw [← hw, ← hw2]
    unfold cLo cHi colLo colHi
    omega
  constructor
  · rintro ⟨y, ⟨y1, y2⟩, y3, y4⟩
    have hn : hLo p t ≤ p.height := by have : hHi p t ≤ p.height := by unfold hHi; omega
                                       omega
    have hb := h_bd h ht hn
    have ab := ar_bd h hb.1 hb.2.2 ⟨y1, y2⟩
    have k := (key hn).2 ⟨by omega, by omega⟩
    exact ⟨⟨hn, by omega⟩, k⟩
  · rintro ⟨⟨hn, _⟩, hk⟩
    have hb := h_bd h ht hn
    obtain ⟨k1, k2⟩ := (key hn).1 hk
    have hlg : leastOf p t c ≤ greatOf p t c := by
      have := alongLo_le h ht
      unfold leastOf greatOf
      rw [Int.add_mul]
      omega
    -- a number between
    obtain ⟨v, v1, v2, v3, v4⟩ : ∃ v, leastOf p t c ≤ v ∧ v ≤ greatOf p t c ∧ arLo p (hLo p t) (hHi p t) ≤ v ∧ v ≤ arHi p (hLo p t) (hHi p t) := by
      have hle : arLo p (hLo p t) (hHi p t) ≤ arHi p (hLo p t) (hHi p t) := by have := ar_bd h hb.1 hb.2.2 (y := hLo p t) (by omega); omega
      exact ⟨max (leastOf p t c) (arLo p (hLo p t) (hHi p t)), by omega, by omega, by omega, by omega⟩
    have m0 : hLo p t ≤ clMid p (hLo p t) (hHi p t) ∧ clMid p (hLo p t) (hHi p t) ≤ hHi p t := by unfold clMid; omega
    have hA : arHi p (hLo p t) (hHi p t) = arcOf p (clMid p (hLo p t) (hHi p t)) := rfl
    by_cases hl : arcOf p (hLo p t) ≤ v
    · obtain ⟨y, y1, y2, y3⟩ := ivt h hb.1 m0.1 (by omega) (.inl ⟨hl, by omega⟩)
      exact ⟨y, ⟨y1, by omega⟩, by omega, by omega⟩
    · have hr : arcOf p (hHi p t) ≤ v := by unfold arLo at v3; omega
      obtain ⟨y, y1, y2, y3⟩ := ivt h (by omega) m0.2 hb.2.2 (v := v) (.inr ⟨by omega, hr⟩)
      exact ⟨y, ⟨by omega, y2⟩, by omega, by omega⟩
/-- what a point means: the levels of its heights, and their ends -/
theorem means_has {p : Pap} {t : Pt} {c K1 K2 K3 K4 y : Int} (h : p.Ok) (hE : Ends p t c K1 K2 K3 K4) (hy : InS p t c y) : ∃ s ∈ meansOf p (two K1 (K2 - 1) K3 (K4 - 1)), s.1 ≤ lev p y ∧ lev p y ≤ s.2 := by
  have ho := ends_ord hE
  rw [means_two h ho]
  rcases (ins_two hE y).1 hy with ⟨y1, y2⟩ | ⟨y1, y2⟩
  · have f1 : K1 ≤ K2 - 1 := by omega
    have m1 := lev_mono h y1
    have m2 := lev_mono h y2
    rw [if_pos f1]
    by_cases f2 : K3 ≤ K4 - 1
    · have m3 := lev_mono h (show K2 - 1 ≤ K4 - 1 by have := ho f1 f2; omega)
      rw [if_pos f2]
      by_cases f3 : lev p K3 - 1 ≤ lev p (K2 - 1)
      · rw [if_pos f3]; exact ⟨_, List.mem_singleton.2 rfl, m1, by show lev p y ≤ lev p (K4 - 1); omega⟩
      · rw [if_neg f3]; exact ⟨_, List.mem_cons_self .., m1, m2⟩
    · rw [if_neg f2]; exact ⟨_, List.mem_singleton.2 rfl, m1, m2⟩
  · have f2 : K3 ≤ K4 - 1 := by omega
    have m1 := lev_mono h y1
    have m2 := lev_mono h y2
    rw [if_pos f2]
    by_cases f1 : K1 ≤ K2 - 1
    · have m3 := lev_mono h (show K1 ≤ K3 by have := ho f1 f2; omega)
      rw [if_pos f1]
      by_cases f3 : lev p K3 - 1 ≤ lev p (K2 - 1)
      · rw [if_pos f3]; exact ⟨_, List.mem_singleton.2 rfl, by show lev p K1 ≤ lev p y; omega, m2⟩
      · rw [if_neg f3]; exact ⟨_, List.mem_cons_of_mem _ (List.mem_cons_self ..), m1, m2⟩
    · rw [if_neg f1, if_pos f2]; exact ⟨_, List.mem_singleton.2 rfl, m1, m2⟩
def EndsOf (p : Pap) (t : Pt) (c : Int) (s : Int × Int) : Prop :=
  (∃ y, InS p t c y ∧ lev p y = s.1) ∧ (∃ y, InS p t c y ∧ lev p y = s.2) ∧ (∀ y, InS p t c y → lev p y ≠ s.1 - 1) ∧ (∀ y, InS p t c y → lev p y ≠ s.2 + 1)
theorem means_ends {p : Pap} {t : Pt} {c K1 K2 K3 K4 : Int} (h : p.Ok) (hE : Ends p t c K1 K2 K3 K4) : ∀ s ∈ meansOf p (two K1 (K2 - 1) K3 (K4 - 1)), EndsOf p t c s := by
  have ho := ends_ord hE
  have hi := ins_two hE
  rw [means_two h ho]
  -- the levels of a height, by halves
  have lv : ∀ y, InS p t c y → (K1 ≤ K2 - 1 ∧ lev p K1 ≤ lev p y ∧ lev p y ≤ lev p (K2 - 1)) ∨ (K3 ≤ K4 - 1 ∧ lev p K3 ≤ lev p y ∧ lev p y ≤ lev p (K4 - 1)) := by
    intro y hy
    rcases (hi y).1 hy with ⟨y1, y2⟩ | ⟨y1, y2⟩
    · exact .inl ⟨by omega, lev_mono h y1, lev_mono h y2⟩
    · exact .inr ⟨by omega, lev_mono h y1, lev_mono h y2⟩
  intro s hs
  by_cases f1 : K1 ≤ K2 - 1
  · have i1 := (hi K1).2 (.inl ⟨Int.le_refl _, f1⟩)
    have i2 := (hi (K2 - 1)).2 (.inl ⟨f1, Int.le_refl _⟩)
    rw [if_pos f1] at hs
    by_cases f2 : K3 ≤ K4 - 1
    · have i3 := (hi K3).2 (.inr ⟨Int.le_refl _, f2⟩)
      have i4 := (hi (K4 - 1)).2 (.inr ⟨f2, Int.le_refl _⟩)
      have o := ho f1 f2
      have m1 := lev_mono h (show K1 ≤ K3 by omega)
      have m2 := lev_mono h (show K2 - 1 ≤ K4 - 1 by omega)
      rw [if_pos f2] at hs
      by_cases f3 : lev p K3 - 1 ≤ lev p (K2 - 1)
      · rw [if_pos f3, List.mem_singleton] at hs
        subst hs
        exact ⟨⟨_, i1, rfl⟩, ⟨_, i4, rfl⟩, fun y hy e => by have := lv y hy; simp only at e; omega, fun y hy e => by have := lv y hy; simp only at e; omega⟩
      · rw [if_neg f3] at hs
        simp only [List.mem_cons, List.not_mem_nil, or_false] at hs
        rcases hs with rfl | rfl
        · exact ⟨⟨_, i1, rfl⟩, ⟨_, i2, rfl⟩, fun y hy e => by have := lv y hy; simp only at e; omega, fun y hy e => by have := lv y hy; simp only at e; omega⟩
        · exact ⟨⟨_, i3, rfl⟩, ⟨_, i4, rfl⟩, fun y hy e => by have := lv y hy; simp only at e; omega, fun y hy e => by have := lv y hy; simp only at e; omega⟩
    · rw [if_neg f2, List.mem_singleton] at hs
      subst hs
      exact ⟨⟨_, i1, rfl⟩, ⟨_, i2, rfl⟩, fun y hy e => by have := lv y hy; simp only at e; omega, fun y hy e => by have := lv y hy; simp only at e; omega⟩
  · rw [if_neg f1] at hs
    by_cases f2 : K3 ≤ K4 - 1
    · have i3 := (hi K3).2 (.inr ⟨Int.le_refl _, f2⟩)
      have i4 := (hi (K4 - 1)).2 (.inr ⟨f2, Int.le_refl _⟩)
      rw [if_pos f2, List.mem_singleton] at hs
      subst hs
      exact ⟨⟨_, i3, rfl⟩, ⟨_, i4, rfl⟩, fun y hy e => by have := lv y hy; simp only at e; omega, fun y hy e => by have := lv y hy; simp only at e; omega⟩
    · rw [if_neg f2] at hs; cases hs
theorem means_some {p : Pap} {t : Pt} {c K1 K2 K3 K4 : Int} (h : p.Ok) (hE : Ends p t c K1 K2 K3 K4) : 0 < (meansOf p (two K1 (K2 - 1) K3 (K4 - 1))).length ↔ ∃ y, InS p t c y := by
  constructor
  · intro hl
    obtain ⟨s, hs⟩ := List.exists_mem_of_length_pos hl
    obtain ⟨⟨y, hy, _⟩, _⟩ := means_ends h hE s hs
    exact ⟨y, hy⟩
  · rintro ⟨y, hy⟩
    obtain ⟨s, hs, _⟩ := means_has h hE hy
    exact List.length_pos_of_mem hs
theorem means_le {p : Pap} {t : Pt} {c K1 K2 K3 K4 : Int} (h : p.Ok) (hE : Ends p t c K1 K2 K3 K4) : (meansOf p (two K1 (K2 - 1) K3 (K4 - 1))).length ≤ 2 := by
  rw [means_two h (ends_ord hE)]
  by_cases f1 : K1 ≤ K2 - 1 <;> by_cases f2 : K3 ≤ K4 - 1 <;> by_cases f3 : lev p K3 - 1 ≤ lev p (K2 - 1) <;> simp [f1, f2, f3]
end Go.Proofs.Ytmeljcbefnojfaa
