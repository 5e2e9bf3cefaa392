/- What With answers. -/
import Derived.Test.YtpikaohodieeaaaCnm
namespace Go.Proofs.Ytpikaohodieeaaa
open Go.RowKit
set_option linter.unusedSimpArgs false
set_option linter.unusedVariables false
theorem rdR_in {d : Drm} {m : Nat} {F : Nat → Int × Int × Int} {vd : Bool} {E : Int} {S S1 : Nat → Int × Int} (h : RdR d m F vd E S) (hn : ¬ E = 0) (hd : DrOk d) (hk : MksOk d m F) (he : Ends d.n (Rdg d.n (gapF d) m F) S1) : vd = false ∧ E = 1 := by
  rcases h with ⟨h, h2⟩ | ⟨h1, h2, ⟨h, e⟩ | ⟨_, _, h⟩ | ⟨h3, h, h4⟩⟩
  · rcases h2 with ⟨_, h2⟩ | ⟨_, _, h2⟩ | ⟨h2, _⟩
    · exact absurd hd h2
    · exact absurd hk h2
    · exact absurd h2 hn
  · exact ⟨h, e⟩
  · exact absurd he.lo (h _)
  · exact absurd h hn
/-- With has a reading just where the tick is one of the span -/
theorem rwR_iff {d : Drm} {m : Nat} {F : Nat → Int × Int × Int} {E : Int} {S Sw : Nat → Int × Int} {a : Nat} {t : Int} (hd : DrOk d) (hk : MksOk d m F) (he : Ends d.n (Rdg d.n (gapF d) m F) S) (ha : a ≤ d.n) (h : RwR d m F (a : Int) t E Sw) : E = 0 ↔ (S a).1 ≤ t ∧ t ≤ (S a).2 := by
  have hg := gpOk hd
  constructor
  · rintro rfl
    rcases h with ⟨h, _⟩ | ⟨_, _, _, _, ⟨h, _⟩ | ⟨_, h⟩⟩
    · exact absurd rfl h
    · omega
    · have h1 := rdg_cat.1 h.lo
      have h2 := h1.2 0 (by omega)
      have h3 := he.all _ h1.1 a ha
      unfold hasP at h2
      rw [Int.toNat_natCast] at h2
      simp only at h2 h3
      omega
  · intro ht
    by_cases hz : E = 0
    · exact hz
    · exfalso
      have b1 := he.lo.tick a (by omega)
      have b2 := he.hi.tick a (by omega)
      obtain ⟨T, hT, hTa⟩ := he.one (fun i hi => (hg.2.2 i hi).2.1) (mkOk_of hk) ha ht
      rcases h with ⟨_, vd, S1, hv, h⟩ | ⟨_, _, _, _, ⟨_, h⟩ | ⟨h, _⟩⟩
      · have := (rdR_in h hz hd hk he).1
        have h2 := hv.2 ⟨by omega, by omega⟩
        rw [this] at h2
        cases h2
      · refine h T (rdg_cat.2 ⟨hT, fun j _ => ?_⟩)
        unfold hasP
        rw [Int.toNat_natCast]
        simp only
        omega
      · exact hz h
/-- what With returns -/
theorem rwR_at {d : Drm} {m : Nat} {F : Nat → Int × Int × Int} {Sw : Nat → Int × Int} {a : Nat} {t : Int} (h : RwR d m F (a : Int) t 0 Sw) : Rdg d.n (gapF d) m F (fun i => (Sw i).1) ∧ (Sw a).1 = t ∧ ∀ U, Rdg d.n (gapF d) m F U → U a = t → ∀ i, i ≤ d.n → (Sw i).1 ≤ U i := by
  rcases h with ⟨h, _⟩ | ⟨_, _, _, _, ⟨h, _⟩ | ⟨_, h⟩⟩
  · exact absurd rfl h
  · omega
  · have h1 := rdg_cat.1 h.lo
    have h2 := h1.2 0 (by omega)
    unfold hasP at h2
    rw [Int.toNat_natCast] at h2
    simp only at h2
    refine ⟨h1.1, by omega, fun U hU hUa i hi => (h.all U (rdg_cat.2 ⟨hU, fun j _ => ?_⟩) i hi).1⟩
    unfold hasP
    rw [Int.toNat_natCast]
    simp only
    omega
theorem rwR_ahead {d : Drm} {m : Nat} {F : Nat → Int × Int × Int} {Sw Sx : Nat → Int × Int} {a : Nat} {t : Int} (ha : a ≤ d.n) (h : RwR d m F (a : Int) t 0 Sw) (h2 : RwR d m F (a : Int) (t + 1) 0 Sx) : ∀ i, i ≤ d.n → (Sw i).1 ≤ (Sx i).1 := fun i hi => by
  obtain ⟨h1, h3, h4⟩ := rwR_at h
  obtain ⟨k1, k3, k4⟩ := rwR_at h2
  have := h4 _ (Rdg.min h1 k1) (by simp only [h3, k3]; omega) i hi
  omega
end Go.Proofs.Ytpikaohodieeaaa
