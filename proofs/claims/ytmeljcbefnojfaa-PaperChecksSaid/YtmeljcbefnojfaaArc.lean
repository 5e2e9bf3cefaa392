import Derived.Test.YtmeljcbefnojfaaHts
namespace Go.Proofs.Ytmeljcbefnojfaa
open Go.RowKit
/-- the arc at a height -/
def arcOf (p : Pap) (y : Int) : Int := if p.radius = 0 then 0 else y * (p.height - y) / (2 * p.radius)
set_option maxHeartbeats 400000 in
theorem arcs_zero (p : Pap) (w : World) (hr : p.radius = 0) :
    Calls Try.prog 93 #[p.v] w fun e w' => e = .returned (.func (.func 121) #[] #[]) ∧ Below w.heap.size w w' := by
  have e1 : (p.radius == 0) = true := by simp [hr]
  have HR := Lib.hid hr
  clear hr
  go_enter Try.func93, Try.ntmps93
  go_wp2_with fail
  go_ret
  exact ⟨rfl, box1 _ _⟩
/-- a block that holds a paper -/
def HasPap (p : Pap) (b : Nat) (w : World) : Prop := w.cell? ⟨b, 0, none⟩ = some (.int .i64 p.pitch) ∧ w.cell? ⟨b, 1, none⟩ = some (.int .i64 p.height) ∧ w.cell? ⟨b, 2, none⟩ = some (.int .i64 p.radius) ∧ w.cell? ⟨b, 3, none⟩ = some (.int .i64 p.low) ∧ w.cell? ⟨b, 4, none⟩ = some (.int .i64 p.high) ∧ w.cell? ⟨b, 5, none⟩ = some (.int .i64 p.cols) ∧ w.cell? ⟨b, 6, none⟩ = some (.int .i64 p.al) ∧ w.cell? ⟨b, 7, none⟩ = some (.int .i64 p.ah) ∧ w.cell? ⟨b, 8, none⟩ = some (.int .i64 p.cl) ∧ w.cell? ⟨b, 9, none⟩ = some (.int .i64 p.ch)
theorem HasPap.up {p : Pap} {b : Nat} {W w1 : World} (h : HasPap p b W) {B : Nat} (hb : Below B W w1) (hl : b < B) : HasPap p b w1 := by
  unfold HasPap at *
  have hc : ∀ o, w1.cell? ⟨b, o, none⟩ = W.cell? ⟨b, o, none⟩ := fun o => hb.cell (p := ⟨b, o, none⟩) hl
  simp only [hc]
  exact h
set_option maxHeartbeats 400000 in
theorem arcs_pos (p : Pap) (w : World) (hr : ¬ p.radius = 0) :
    Calls Try.prog 93 #[p.v] w fun e w' => e = .returned (.func (.func 122) #[] #[.pointer (some ⟨w.heap.size, 0, none⟩)]) ∧ Below w.heap.size w w' ∧ HasPap p w.heap.size w' ∧ w.heap.size < w'.heap.size := by
  have e1 : (p.radius == 0) = false := by simp [hr]
  clear hr
  go_enter Try.func93, Try.ntmps93
  go_wp2_with fail
  go_ret
  exact ⟨rfl, box1 _ _, by simp [HasPap], by simp⟩
set_option maxHeartbeats 400000 in
theorem arcs1_any (p : Pap) (y : Int) (w : World) (hr : p.radius = 0) :
    Calls Try.prog 121 #[.int .i64 y] w fun e w' => e = .returned (.int .i64 (arcOf p y)) ∧ w = w' := by
  have e : arcOf p y = 0 := by simp [arcOf, hr]
  rw [e]
  clear e hr
  go_enter Try.func121, Try.ntmps121
  go_wp2_with fail
  go_ret
  exact ⟨rfl, rfl⟩
set_option maxHeartbeats 400000 in
theorem arcs2_any (p : Pap) (y : Int) (b : Nat) (w : World) (h : p.Ok) (hy : 0 ≤ y ∧ y ≤ p.height) (hr : ¬ p.radius = 0) (hp : HasPap p b w) :
    Calls Try.prog 122 #[.int .i64 y, .pointer (some ⟨b, 0, none⟩)] w fun e w' => e = .returned (.int .i64 (arcOf p y)) ∧ w = w' := by
  have e : arcOf p y = y * (p.height - y) / (2 * p.radius) := by simp [arcOf, hr]
  rw [e]
  obtain ⟨h1, h2, h3, h4, h5, h6, h7, h8⟩ := h
  have h3' : p.height ≤ p.radius ∧ p.radius ≤ 4000000 := by omega
  have hm := mul_bd (a := y) (b := p.height - y) (A := 400000) (B := 400000) (by omega) (by omega) (by omega) (by omega)
  obtain ⟨hm1, hm2⟩ := hm
  obtain ⟨-, c1, c2, -⟩ := hp
  clear e h3 hr h4 h5 h6 h7 h8
  go_enter Try.func122, Try.ntmps122
  go_wp2_with fail
  go_ret
  exact ⟨rfl, rfl⟩
/-- the value of an arc's function: in every world in which w lies -/
def IsArc (p : Pap) (v : Value) (w : World) : Prop :=
  (p.radius = 0 ∧ v = .func (.func 121) #[] #[]) ∨ (¬ p.radius = 0 ∧ ∃ b, v = .func (.func 122) #[] #[.pointer (some ⟨b, 0, none⟩)] ∧ HasPap p b w ∧ b < w.heap.size)
end Go.Proofs.Ytmeljcbefnojfaa
