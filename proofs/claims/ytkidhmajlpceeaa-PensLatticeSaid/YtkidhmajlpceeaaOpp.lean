/- The arguments of the statements, as their laws read them. -/
import Derived.Test.YtkidhmajlpceeaaAwk
namespace Go.Proofs.Ytkidhmajlpceeaa
open Go.RowKit Go.ChangeShapes Go.WideShapes Go.ChangeAt Go.Deep
theorem Try.laidOut : laidOutB Try.prog = true := by kernel_rfl
theorem cellsPen : Try.prog.cellsOf 25 = 4 := by kernel_rfl
theorem cellsSpan : Try.prog.cellsOf 23 = 2 := by kernel_rfl
theorem cellsInt : Try.prog.cellsOf 3 = 1 := by kernel_rfl
section
variable {H : Type} {enc : TypeId × Value → H} {w : World} {base b0 : Nat} {r : Reach} {spare : Nat → Bool} {held : Bool}
theorem trod_span {n : Nat} {c0 c1 : Value} {x : DataW H × List MemPlace} (h : DataW.trod enc Try.prog w base spare held n 23 [c0, c1] = some x) :
    ∃ a b : Int, c0 = .int .i64 a ∧ c1 = .int .i64 b ∧ x = (.agg [.lit (.int .i64 a), .lit (.int .i64 b)], []) ∧ (Lit.int .i64 a).wf = true ∧ (Lit.int .i64 b).wf = true := by
  obtain ⟨xs, n, _, hx, _, hlen, hg⟩ := DataW.trod_struct Try.underlying23 h
  match xs, hlen with
  | [y0, y1], _ =>
    have g0 := hg 0 _ rfl
    have g1 := hg 1 _ rfl
    simp [cellsInt] at g0 g1
    obtain ⟨n0, e0, rfl, w0⟩ := DataW.trod_int Try.underlying3 g0
    obtain ⟨n1, e1, rfl, w1⟩ := DataW.trod_int Try.underlying3 g1
    cases e0; cases e1
    exact ⟨n0, n1, rfl, rfl, by simpa using hx, w0, w1⟩
set_option maxRecDepth 100000 in
/-- a pen -/
theorem open_pen {v : Value} {d : DataW H} {pl : List MemPlace} (hv : Value.okWide Try.prog w r b0 25 v) (h : DataW.Trod enc Try.prog w base spare held 25 v d pl) : ∃ p : Pn, v = p.v := by
  obtain ⟨cs, rfl, hsz⟩ := okWide_struct Try.underlying25 hv
  obtain ⟨l⟩ := cs
  match l, hsz.trans cellsPen with
  | [c0, c1, c2, c3], _ =>
    obtain ⟨fuel, hf⟩ := h
    obtain ⟨xs, n, _, hx, _, hlen, hg⟩ := DataW.trod_struct Try.underlying25 hf
    match xs, hlen with
    | [y0, y1, y2], _ =>
      have g0 := hg 0 _ rfl
      have g1 := hg 1 _ rfl
      have g2 := hg 2 _ rfl
      simp [Value.cells, cellsInt, cellsSpan] at g0 g1 g2
      obtain ⟨n0, e0, rfl, w0⟩ := DataW.trod_int Try.underlying3 g0
      obtain ⟨n1, n2, rfl, rfl, rfl, w1, w2⟩ := trod_span g1
      obtain ⟨n3, e3, rfl, w3⟩ := DataW.trod_int Try.underlying3 g2
      cases e0; cases e3
      exact ⟨⟨n0, n1, n2, n3⟩, rfl⟩
set_option maxRecDepth 100000 in
/-- a list of numbers -/
theorem open_intl {v : Value} {d : DataW H} {pl : List MemPlace} (hv : Value.okWide Try.prog w r b0 28 v) (h : DataW.Trod enc Try.prog w base (fun _ => true) held 28 v d pl) :
    ∃ (A : Option Addr) (n c : Nat) (Z : Nat → Int), v = .slice A n c ∧ IntsIn A n Z w.heap.size w := by
  obtain ⟨a, l, c, rfl⟩ := okWide_slice Try.underlying28 hv
  obtain ⟨fuel, hf⟩ := h
  rcases open_slice1 Try.underlying28 cellsInt (by simpa [Value.cells] using hf) with ⟨hcs, _⟩ | ⟨a, len, cap, m, n, V, D, Pl, hcs, _, hl, hm, hmm, _, hi⟩
  · simp at hcs
    obtain ⟨rfl, rfl, rfl⟩ := hcs
    exact ⟨none, 0, 0, fun _ => 0, rfl, by omega, fun i hi => absurd hi (by omega)⟩
  · simp only [if_true] at hmm
    have each : ∀ i, i < len → ∃ z : Int, w.cell? (a.add i) = some (.int .i64 z) := by
      intro i hil
      obtain ⟨k0, ht⟩ := hi i (by omega)
      obtain ⟨z, e, _, _⟩ := DataW.trod_int Try.underlying3 ht
      have e' : V i = .int .i64 z := by simpa using e
      exact ⟨z, by rw [k0, e']⟩
    obtain ⟨Z, hZ⟩ := choose_lt each
    have hml : len ≤ maxLen := by omega
    unfold maxLen at hml
    refine ⟨some a, len, cap, Z, by simpa using hcs, by omega, fun i hil => ⟨a, rfl, ?_, hZ i hil⟩⟩
    have := World.block_lt_of_cell? _ _ (hZ i hil)
    rwa [add_block] at this
end
end Go.Proofs.Ytkidhmajlpceeaa
