/- The mathematics of clocks turned over. -/
import Derived.Test.YtpikaohodieeaaaQfHas
namespace Go.Proofs.Ytpikaohodieeaaa
open Go.RowKit
set_option linter.unusedSimpArgs false
set_option linter.unusedVariables false
theorem own_type {w : World} {B n size : Nat} {e : TypeId} {v : Value} {xs : List Value} (h : w.ownsRow B e size v n xs) {g : Nat} (hg : v.ownBlock = some g) : ∃ cur, w.heap[g]? = some (.cells cur e (0, 0)) := by
  obtain ⟨_, ⟨f, _⟩ | ⟨g', cap, cur, f1, f2, f3, _⟩⟩ := h
  · subst f; cases hg
  · subst f1; cases hg; exact ⟨cur, f3⟩
theorem own_part {w : World} {B n1 n2 s1 s2 : Nat} {e1 e2 : TypeId} {v1 v2 : Value} {x1 x2 : List Value} (h1 : w.ownsRow B e1 s1 v1 n1 x1) (h2 : w.ownsRow B e2 s2 v2 n2 x2) (hne : e1 ≠ e2) : Parted v1 v2 := fun g h3 h4 => by
  obtain ⟨c1, k1⟩ := own_type h1 h3
  obtain ⟨c2, k2⟩ := own_type h2 h4
  rw [k1] at k2
  injection k2 with k2
  injection k2 with _ k2 _
  exact hne k2
theorem own_kept {W w1 : World} {B n s : Nat} {e : TypeId} {u v : Value} {xs : List Value} (hu : W.ownsRow B e s u n xs) (hg : W.grownBy w1 v.ownBlock) (hd : Parted v u) : w1.ownsRow B e s u n xs := hu.kept hg (by
  cases hub : u.ownBlock with
  | none => exact .inl rfl
  | some g => exact .inr fun e => hd g e.symm hub)
end Go.Proofs.Ytpikaohodieeaaa
