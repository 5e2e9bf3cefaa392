/- A list of moments as an argument. -/
import Derived.Test.YtkidhmajlpceeaaOpm
import Derived.Test.YtkidhmajlpceeaaKee
namespace Go.Proofs.Ytkidhmajlpceeaa
open Go.RowKit Go.ChangeShapes Go.WideShapes Go.ChangeAt Go.Deep
section
variable {H : Type} {enc : TypeId × Value → H} {w : World} {base b0 : Nat} {r : Reach} {held : Bool}
theorem trod_mom {spare : Nat → Bool} {n : Nat} {c0 c1 : Value} {x : DataW H × List MemPlace} (h : DataW.trod enc Try.prog w base spare held n 27 [c0, c1] = some x) :
    ∃ a b : Int, c0 = .int .i64 a ∧ c1 = .int .i64 b := by
  obtain ⟨xs, n, _, hx, _, hlen, hg⟩ := DataW.trod_struct Try.underlying27 h
  match xs, hlen with
  | [y0, y1], _ =>
    have g0 := hg 0 _ rfl
    have g1 := hg 1 _ rfl
    simp [cellsInt] at g0 g1
    obtain ⟨n0, e0, rfl, w0⟩ := DataW.trod_int Try.underlying3 g0
    obtain ⟨n1, e1, rfl, w1⟩ := DataW.trod_int Try.underlying3 g1
    cases e0; cases e1
    exact ⟨n0, n1, rfl, rfl⟩
set_option maxRecDepth 100000 in
/-- a list of moments -/
theorem open_mos {v : Value} {d : DataW H} {pl : List MemPlace} (hv : Value.okWide Try.prog w r b0 41 v) (h : DataW.Trod enc Try.prog w base (fun _ => true) held 41 v d pl) :
    ∃ (A : Option Addr) (n c : Nat) (M : Nat → Int × Int), v = .slice A n c ∧ MosIn A n M w.heap.size w := by
  obtain ⟨a, l, c, rfl⟩ := okWide_slice Try.underlying41 hv
  obtain ⟨fuel, hf⟩ := h
  rcases open_slice Try.underlying41 (by simpa [Value.cells] using hf) with ⟨hcs, _⟩ | ⟨a, len, cap, m, n, D, Pl, hcs, _, hl, hm, hmm, _, hi⟩
  · simp at hcs
    obtain ⟨rfl, rfl, rfl⟩ := hcs
    exact ⟨none, 0, 0, fun _ => (0, 0), rfl, by omega, fun i hi => absurd hi (by omega)⟩
  · simp only [if_true] at hmm
    have each : ∀ i, i < len → ∃ t : Int × Int, w.cell? (a.add (i * 2)) = some (.int .i64 t.1) ∧ w.cell? ⟨(a.add (i * 2)).block, (a.add (i * 2)).off + 1, none⟩ = some (.int .i64 t.2) := by
      intro i hil
      obtain ⟨cs', hc, ht⟩ := hi i (by omega)
      rw [cellsMoment] at hc
      obtain ⟨_, hcl, hat⟩ := World.cells?_some hc
      match cs', hcl with
      | [c0, c1], _ =>
        obtain ⟨p, q, rfl, rfl⟩ := trod_mom ht
        have k0 := hat 0 (by omega)
        have k1 := hat 1 (by omega)
        rw [add_zero] at k0
        rw [add_pos _ 1 (by omega)] at k1
        exact ⟨(p, q), k0, k1⟩
    obtain ⟨S, hS⟩ := choose_lt each
    refine ⟨some a, len, cap, S, by simpa using hcs, len_lt (by omega), fun i hil => ⟨a, rfl, ?_, hS i hil⟩⟩
    have := World.block_lt_of_cell? _ _ (hS i hil).1
    rwa [add_block] at this
end
end Go.Proofs.Ytkidhmajlpceeaa
