/- The specification's with, With and Run. -/
import Derived.Test.YtpikaohodieeaaaQfRrd
import Derived.Maps.AppendAt
namespace Go.Proofs.Ytpikaohodieeaaa
open Go.RowKit
set_option linter.unusedSimpArgs false
set_option linter.unusedVariables false
theorem step_app_run {ops : Array Oper} {o : Oper} {a : Act} {w : World} {K : Act → World → Prop} {Q : Exit → Act → World → Prop} {E : Prop} (hgd : o.guard = none) (s x : Operand) (t : TypeId)
    (ho : o.op = .call { callee := .builtin .append, args := #[s, x], argTypes := #[t, t] }) (vs vx : Value) (hs : a.eval s = vs) (hx : a.eval x = vx) (v' : Value) (w' : World)
    (hr : (Builtin.append_ #[t, t] o.type #[vs, vx]).run Try.prog w = .ok v' w') (hK : K (a.put o.dst v') w') :
    if Region.wanted o (yielded ops a.tmps) = true then Oper.wp Try.prog o a w K Q else E := by
  have hw : Region.wanted o (yielded ops a.tmps) = true := by simp [Region.wanted, hgd]
  rw [if_pos hw]
  unfold Oper.wp
  simp [execOp, ho, resolve, invoke, builtin, hs, hx, hr, Result.andThen]
  exact hK
theorem grown_refl (w : World) (r : Option Nat) : w.grownBy w r := ⟨rfl, rfl, rfl, Nat.le_refl _, fun _ _ _ => rfl⟩
theorem TrsIn.row {b n B : Nat} {F : Nat → Int × Int × Int} {w w' : World} {r : Option Nat} (h : TrsIn (some ⟨b, 0, none⟩) n F B w) (hg : w.grownBy w' r) (hb : b < w.heap.size) (hne : some b ≠ r) : TrsIn (some ⟨b, 0, none⟩) n F w'.heap.size w' :=
  ⟨h.1, fun i hi => by
    obtain ⟨a, e, hl, h1, h2, h3⟩ := h.2 i hi
    cases e
    have hs := hg.size
    refine ⟨_, rfl, by show b < _; omega, ?_, cell_row hg (by simp only [add_block]; exact hb) (by simp only [add_block]; exact hne) h2, cell_row hg (by simp only [add_block]; exact hb) (by simp only [add_block]; exact hne) h3⟩
    rw [Addr.add_lit] at h1 ⊢
    exact cell_row hg hb hne h1⟩
theorem own_some {w : World} {B n s : Nat} {e : TypeId} {v : Value} {xs : List Value} (h : w.ownsRow B e s v n xs) (hne : v ≠ .slice none 0 0) : ∃ g cap, v = .slice (some ⟨g, 0, none⟩) n cap := by
  obtain ⟨_, ⟨f, _⟩ | ⟨g, cap, cur, f1, _⟩⟩ := h
  · exact absurd f hne
  · exact ⟨g, cap, f1⟩
end Go.Proofs.Ytpikaohodieeaaa
