import Derived.Test.YtmeljcbefnojfaaOpn
namespace Go.Proofs.Ytmeljcbefnojfaa
open Go.RowKit Go.ChangeShapes Go.WideShapes Go.ChangeAt
theorem cells44 : Try.prog.cellsOf 44 = 3 := by kernel_rfl
abbrev Pt.d {H : Type} (t : Pt) : DataW H := .agg [.lit (.int .i64 t.x), .lit (.int .i64 t.y), .lit (.int .i64 t.half)]
def Pt.wf (t : Pt) : Prop := (Lit.int .i64 t.x).wf = true ∧ (Lit.int .i64 t.y).wf = true ∧ (Lit.int .i64 t.half).wf = true
theorem shut_point {H : Type} {enc : TypeId × Value → H} {w : World} {base : Nat} {spare : Nat → Bool} {held : Bool} (t : Pt) (hw : t.wf) : DataW.Trod enc Try.prog w base spare held 44 t.v t.d [] := by
  obtain ⟨h0, h1, h2⟩ := hw
  refine ⟨3, ?_⟩
  simp [DataW.trod, Value.cells, Try.underlying44, Try.underlying3, cells44, cells3, h0, h1, h2]
set_option maxRecDepth 100000 in
theorem open_point {H : Type} {enc : TypeId × Value → H} {w : World} {base b0 : Nat} {r : Reach} {spare : Nat → Bool} {held : Bool} {v : Value} {d : DataW H} {pl : List MemPlace} (hv : Value.okWide Try.prog w r b0 44 v) (h : DataW.Trod enc Try.prog w base spare held 44 v d pl) :
    ∃ t : Pt, v = t.v ∧ d = t.d ∧ pl = [] ∧ t.wf := by
  obtain ⟨cs, rfl, hsz⟩ := okWide_struct Try.underlying44 hv
  obtain ⟨l⟩ := cs
  match l, hsz.trans cells44 with
  | [c0, c1, c2], _ =>
    obtain ⟨fuel, hf⟩ := h
    obtain ⟨xs, n, _, hx, _, hlen, hg⟩ := DataW.trod_struct Try.underlying44 hf
    match xs, hlen with
    | [y0, y1, y2], _ =>
      have g0 := hg 0 _ rfl
      have g1 := hg 1 _ rfl
      have g2 := hg 2 _ rfl
      simp [Value.cells, cells3] at g0 g1 g2
      obtain ⟨n0, e0, rfl, w0⟩ := DataW.trod_int Try.underlying3 g0
      obtain ⟨n1, e1, rfl, w1⟩ := DataW.trod_int Try.underlying3 g1
      obtain ⟨n2, e2, rfl, w2⟩ := DataW.trod_int Try.underlying3 g2
      cases e0; cases e1; cases e2
      simp only [Prod.mk.injEq] at hx
      exact ⟨⟨n0, n1, n2⟩, rfl, by simpa using hx.1, by simpa using hx.2, w0, w1, w2⟩
theorem shut_span {H : Type} {enc : TypeId × Value → H} {w : World} {base : Nat} {spare : Nat → Bool} {held : Bool} (a b : Int) (hw : (Lit.int .i64 a).wf = true ∧ (Lit.int .i64 b).wf = true) : DataW.Trod enc Try.prog w base spare held 23 (.agg #[.int .i64 a, .int .i64 b]) (.agg [.lit (.int .i64 a), .lit (.int .i64 b)]) [] := by
  obtain ⟨h0, h1⟩ := hw
  refine ⟨3, ?_⟩
  simp [DataW.trod, Value.cells, Try.underlying23, Try.underlying3, cells23, cells3, h0, h1]
set_option maxRecDepth 100000 in
theorem open_span {H : Type} {enc : TypeId × Value → H} {w : World} {base b0 : Nat} {r : Reach} {spare : Nat → Bool} {held : Bool} {v : Value} {d : DataW H} {pl : List MemPlace} (hv : Value.okWide Try.prog w r b0 23 v) (h : DataW.Trod enc Try.prog w base spare held 23 v d pl) :
    ∃ a b : Int, v = .agg #[.int .i64 a, .int .i64 b] ∧ d = .agg [.lit (.int .i64 a), .lit (.int .i64 b)] ∧ pl = [] ∧ (Lit.int .i64 a).wf = true ∧ (Lit.int .i64 b).wf = true := by
  obtain ⟨cs, rfl, hsz⟩ := okWide_struct Try.underlying23 hv
  obtain ⟨l⟩ := cs
  match l, hsz.trans cells23 with
  | [c0, c1], _ =>
    obtain ⟨fuel, hf⟩ := h
    obtain ⟨a, b, rfl, rfl, hx, wa, wb⟩ := trod_span hf
    simp only [Prod.mk.injEq] at hx
    exact ⟨a, b, rfl, hx.1, hx.2, wa, wb⟩
end Go.Proofs.Ytmeljcbefnojfaa
