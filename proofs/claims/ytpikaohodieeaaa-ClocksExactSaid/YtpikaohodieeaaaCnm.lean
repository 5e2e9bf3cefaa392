/- What further marks mean. -/
import Derived.Test.YtpikaohodieeaaaCan
namespace Go.Proofs.Ytpikaohodieeaaa
open Go.RowKit
set_option linter.unusedSimpArgs false
set_option linter.unusedVariables false
theorem rdg_cat {n : Nat} {G : Nat → Int × Int} {m q : Nat} {F H : Nat → Int × Int × Int} {T : Nat → Int} : Rdg n G (m + q) (catF m F H) T ↔ Rdg n G m F T ∧ ∀ j, j < q → hasP (H j).2 (T (H j).1.toNat) := by
  constructor
  · intro h
    refine ⟨⟨h.tick, h.gap, fun i hi => ?_⟩, fun j hj => ?_⟩
    · have := h.mark i (by omega)
      unfold catF at this
      rwa [if_pos hi] at this
    · have := h.mark (m + j) (by omega)
      unfold catF at this
      rwa [if_neg (by omega), show m + j - m = j by omega] at this
  · rintro ⟨h, h2⟩
    refine ⟨h.tick, h.gap, fun i hi => ?_⟩
    unfold catF
    by_cases e : i < m
    · rw [if_pos e]; exact h.mark i e
    · rw [if_neg e]; exact h2 (i - m) (by omega)
theorem mks_cat {d : Drm} {m q : Nat} {F H : Nat → Int × Int × Int} (h : MksOk d m F) (hm : m + q ≤ 64) : MksOk d (m + q) (catF m F H) ↔ ∀ j, j < q → mkOk d H j := by
  constructor
  · intro k j hj
    have := k.2 (m + j) (by omega)
    unfold mkOk catF at this
    rw [if_neg (by omega), show m + j - m = j by omega] at this
    exact this
  · intro k
    refine ⟨hm, fun i hi => ?_⟩
    unfold mkOk catF
    by_cases e : i < m
    · rw [if_pos e]; exact h.2 i e
    · rw [if_neg e]; exact k (i - m) (by omega)
/-- a clock may have a reading with further marks -/
theorem canP_iff {c : Clo} {q : Nat} {H : Nat → Int × Int × Int} (hd : DrOk c.d) (hk : MksOk c.d c.m c.F) (hm : c.m + q ≤ 64) : CanP c q H ↔ (∀ j, j < q → mkOk c.d H j) ∧ ∃ T, Rdg c.d.n (gapF c.d) c.m c.F T ∧ ∀ j, j < q → hasP (H j).2 (T (H j).1.toNat) := by
  unfold CanP
  rw [mks_cat hk hm]
  exact ⟨fun h => ⟨h.2.1, h.2.2.imp fun T hT => rdg_cat.1 hT⟩, fun h => ⟨hd, h.1, h.2.imp fun T hT => rdg_cat.2 hT⟩⟩
end Go.Proofs.Ytpikaohodieeaaa
