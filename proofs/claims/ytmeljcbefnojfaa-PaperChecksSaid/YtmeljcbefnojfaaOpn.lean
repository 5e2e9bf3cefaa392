import Derived.Test.YtmeljcbefnojfaaLwA
namespace Go.Proofs.Ytmeljcbefnojfaa
open Go.RowKit Go.ChangeShapes Go.WideShapes Go.ChangeAt
theorem cells25 : Try.prog.cellsOf 25 = 10 := by kernel_rfl
theorem cells23 : Try.prog.cellsOf 23 = 2 := by kernel_rfl
theorem cells3 : Try.prog.cellsOf 3 = 1 := by kernel_rfl
abbrev Pap.d {H : Type} (p : Pap) : DataW H := .agg [.lit (.int .i64 p.pitch), .lit (.int .i64 p.height), .lit (.int .i64 p.radius), .lit (.int .i64 p.low), .lit (.int .i64 p.high), .lit (.int .i64 p.cols), .agg [.lit (.int .i64 p.al), .lit (.int .i64 p.ah)], .agg [.lit (.int .i64 p.cl), .lit (.int .i64 p.ch)]]
def Pap.wf (p : Pap) : Prop := (Lit.int .i64 p.pitch).wf = true ∧ (Lit.int .i64 p.height).wf = true ∧ (Lit.int .i64 p.radius).wf = true ∧ (Lit.int .i64 p.low).wf = true ∧ (Lit.int .i64 p.high).wf = true ∧ (Lit.int .i64 p.cols).wf = true ∧ (Lit.int .i64 p.al).wf = true ∧ (Lit.int .i64 p.ah).wf = true ∧ (Lit.int .i64 p.cl).wf = true ∧ (Lit.int .i64 p.ch).wf = true
theorem shut_paper {H : Type} {enc : TypeId × Value → H} {w : World} {base : Nat} {spare : Nat → Bool} {held : Bool} (p : Pap) (hw : p.wf) : DataW.Trod enc Try.prog w base spare held 25 p.v p.d [] := by
  obtain ⟨h0, h1, h2, h3, h4, h5, h6, h7, h8, h9⟩ := hw
  refine ⟨3, ?_⟩
  simp [DataW.trod, Value.cells, Try.underlying25, Try.underlying23, Try.underlying3, cells25, cells23, cells3, h0, h1, h2, h3, h4, h5, h6, h7, h8, h9]
theorem trod_span {H : Type} {enc : TypeId × Value → H} {w : World} {base n : Nat} {spare : Nat → Bool} {held : Bool} {c0 c1 : Value} {x : DataW H × List MemPlace} (h : DataW.trod enc Try.prog w base spare held n 23 [c0, c1] = some x) :
    ∃ a b : Int, c0 = .int .i64 a ∧ c1 = .int .i64 b ∧ x = (.agg [.lit (.int .i64 a), .lit (.int .i64 b)], []) ∧ (Lit.int .i64 a).wf = true ∧ (Lit.int .i64 b).wf = true := by
  obtain ⟨xs, n, _, hx, _, hlen, hg⟩ := DataW.trod_struct Try.underlying23 h
  match xs, hlen with
  | [y0, y1], _ =>
    have g0 := hg 0 _ rfl
    have g1 := hg 1 _ rfl
    simp [cells3] at g0 g1
    obtain ⟨n0, e0, rfl, w0⟩ := DataW.trod_int Try.underlying3 g0
    obtain ⟨n1, e1, rfl, w1⟩ := DataW.trod_int Try.underlying3 g1
    cases e0; cases e1
    exact ⟨n0, n1, rfl, rfl, by simpa using hx, w0, w1⟩
set_option maxRecDepth 100000 in
theorem open_paper {H : Type} {enc : TypeId × Value → H} {w : World} {base b0 : Nat} {r : Reach} {spare : Nat → Bool} {held : Bool} {v : Value} {d : DataW H} {pl : List MemPlace} (hv : Value.okWide Try.prog w r b0 25 v) (h : DataW.Trod enc Try.prog w base spare held 25 v d pl) :
    ∃ p : Pap, v = p.v ∧ d = p.d ∧ pl = [] ∧ p.wf := by
  obtain ⟨cs, rfl, hsz⟩ := okWide_struct Try.underlying25 hv
  obtain ⟨l⟩ := cs
  match l, hsz.trans cells25 with
  | [c0, c1, c2, c3, c4, c5, c6, c7, c8, c9], _ =>
    obtain ⟨fuel, hf⟩ := h
    obtain ⟨xs, n, _, hx, _, hlen, hg⟩ := DataW.trod_struct Try.underlying25 hf
    match xs, hlen with
    | [y0, y1, y2, y3, y4, y5, y6, y7], _ =>
      have g0 := hg 0 _ rfl
      have g1 := hg 1 _ rfl
      have g2 := hg 2 _ rfl
      have g3 := hg 3 _ rfl
      have g4 := hg 4 _ rfl
      have g5 := hg 5 _ rfl
      have g6 := hg 6 _ rfl
      have g7 := hg 7 _ rfl
      simp [Value.cells, cells3, cells23] at g0 g1 g2 g3 g4 g5 g6 g7
      obtain ⟨n0, e0, rfl, w0⟩ := DataW.trod_int Try.underlying3 g0
      obtain ⟨n1, e1, rfl, w1⟩ := DataW.trod_int Try.underlying3 g1
      obtain ⟨n2, e2, rfl, w2⟩ := DataW.trod_int Try.underlying3 g2
      obtain ⟨n3, e3, rfl, w3⟩ := DataW.trod_int Try.underlying3 g3
      obtain ⟨n4, e4, rfl, w4⟩ := DataW.trod_int Try.underlying3 g4
      obtain ⟨n5, e5, rfl, w5⟩ := DataW.trod_int Try.underlying3 g5
      obtain ⟨n6, n7, rfl, rfl, rfl, w6, w7⟩ := trod_span g6
      obtain ⟨n8, n9, rfl, rfl, rfl, w8, w9⟩ := trod_span g7
      cases e0; cases e1; cases e2; cases e3; cases e4; cases e5
      simp only [Prod.mk.injEq] at hx
      exact ⟨⟨n0, n1, n2, n3, n4, n5, n6, n7, n8, n9⟩, rfl, by simpa using hx.1, by simpa using hx.2, w0, w1, w2, w3, w4, w5, w6, w7, w8, w9⟩
end Go.Proofs.Ytmeljcbefnojfaa
