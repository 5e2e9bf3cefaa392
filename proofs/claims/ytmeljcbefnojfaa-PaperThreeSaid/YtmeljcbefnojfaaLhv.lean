import Derived.Test.YtmeljcbefnojfaaLop
namespace Go.Proofs.Ytmeljcbefnojfaa
open Go.RowKit
/-- a box of one cell -/
def HasV (v : Value) (k : Nat) (w : World) : Prop := w.cell? ⟨k, 0, none⟩ = some v
theorem HasV.up {v : Value} {k : Nat} {W w1 : World} (h : HasV v k W) {B : Nat} (hb : Below B W w1) (hl : k < B) : HasV v k w1 := by
  unfold HasV at *
  rw [hb.cell (p := ⟨k, 0, none⟩) hl]
  exact h
theorem small_sh (A : Option Addr) (n c : Nat) (M : Nat → List (Int × Int)) (w : World) (h : Sheet A n M w) : Calls Try.prog 20 #[.agg #[.slice A n c]] w (AnyBool w) := by
  obtain ⟨X, h1, _⟩ := h
  exact small_any A n c X w h1
end Go.Proofs.Ytmeljcbefnojfaa
