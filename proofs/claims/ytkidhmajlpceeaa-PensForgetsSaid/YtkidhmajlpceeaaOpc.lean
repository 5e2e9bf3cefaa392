/- A list as an argument, with its room. -/
import Derived.Test.YtkidhmajlpceeaaOpp
namespace Go.Proofs.Ytkidhmajlpceeaa
open Go.RowKit Go.ChangeShapes Go.WideShapes Go.ChangeAt Go.Deep
section
variable {H : Type} {enc : TypeId × Value → H} {w : World} {base b0 : Nat} {r : Reach} {spare : Nat → Bool} {held : Bool}
set_option maxRecDepth 100000 in
theorem open_intc {v : Value} {d : DataW H} {pl : List MemPlace} (hv : Value.okWide Try.prog w r b0 28 v) (h : DataW.Trod enc Try.prog w base (fun _ => true) held 28 v d pl) :
    ∃ (A : Option Addr) (n c : Nat) (Z : Nat → Int), v = .slice A n c ∧ IntsIn A n Z w.heap.size w ∧ n ≤ c := by
  obtain ⟨a, l, c, rfl⟩ := okWide_slice Try.underlying28 hv
  obtain ⟨fuel, hf⟩ := h
  rcases open_slice1 Try.underlying28 cellsInt (by simpa [Value.cells] using hf) with ⟨hcs, _⟩ | ⟨a, len, cap, m, n, V, D, Pl, hcs, _, hl, hm, hmm, _, hi⟩
  · simp at hcs
    obtain ⟨rfl, rfl, rfl⟩ := hcs
    exact ⟨none, 0, 0, fun _ => 0, rfl, ⟨by omega, fun i hi => absurd hi (by omega)⟩, Nat.le_refl _⟩
  · simp only [if_true] at hmm
    have each : ∀ i, i < len → ∃ z : Int, w.cell? (a.add i) = some (.int .i64 z) := by
      intro i hil
      obtain ⟨k0, ht⟩ := hi i (by omega)
      obtain ⟨z, e, _, _⟩ := DataW.trod_int Try.underlying3 ht
      have e' : V i = .int .i64 z := by simpa using e
      exact ⟨z, by rw [k0, e']⟩
    obtain ⟨Z, hZ⟩ := choose_lt each
    have hml : len ≤ maxLen := by omega
    unfold maxLen at hml
    refine ⟨some a, len, cap, Z, by simpa using hcs, ⟨by omega, fun i hil => ⟨a, rfl, ?_, hZ i hil⟩⟩, hl⟩
    have := World.block_lt_of_cell? _ _ (hZ i hil)
    rwa [add_block] at this
end
end Go.Proofs.Ytkidhmajlpceeaa
