/- The arguments of the statements (a clock, what is asked, a list of numbers), as their laws read them; the lifts' small laws. -/
import Derived.Test.YtpikaohodieeaaaSmp
namespace Go.Proofs.Ytpikaohodieeaaa
open Go.RowKit Go.ChangeShapes Go.WideShapes Go.ChangeAt Go.Deep
set_option linter.unusedSimpArgs false
set_option linter.unusedVariables false
theorem Try.laidOut : laidOutB Try.prog = true := by kernel_rfl
theorem cellsSpan : Try.prog.cellsOf 31 = 2 := by kernel_rfl
theorem cellsInt : Try.prog.cellsOf 3 = 1 := by kernel_rfl
theorem cellsMark : Try.prog.cellsOf 33 = 3 := by kernel_rfl
theorem cellsStop : Try.prog.cellsOf 34 = 3 := by kernel_rfl
theorem cellsDrum : Try.prog.cellsOf 25 = 2 := by kernel_rfl
theorem cellsClock : Try.prog.cellsOf 28 = 3 := by kernel_rfl
theorem cellsAsk : Try.prog.cellsOf 36 = 15 := by kernel_rfl
theorem cellsSpans : Try.prog.cellsOf 22 = 1 := by kernel_rfl
theorem cellsStops : Try.prog.cellsOf 23 = 1 := by kernel_rfl
theorem cellsMarks : Try.prog.cellsOf 26 = 1 := by kernel_rfl
theorem cellsInts : Try.prog.cellsOf 29 = 1 := by kernel_rfl
section
variable {H : Type} {enc : TypeId × Value → H} {w : World} {base b0 : Nat} {r : Reach} {held : Bool}
theorem trod_span {spare : Nat → Bool} {n : Nat} {c0 c1 : Value} {x : DataW H × List MemPlace} (h : DataW.trod enc Try.prog w base spare held n 31 [c0, c1] = some x) :
    ∃ a b : Int, c0 = .int .i64 a ∧ c1 = .int .i64 b := by
  obtain ⟨xs, n, _, hx, _, hlen, hg⟩ := DataW.trod_struct Try.underlying31 h
  match xs, hlen with
  | [y0, y1], _ =>
    have g0 := hg 0 _ rfl
    have g1 := hg 1 _ rfl
    simp [cellsInt] at g0 g1
    obtain ⟨n0, e0, rfl, w0⟩ := DataW.trod_int Try.underlying3 g0
    obtain ⟨n1, e1, rfl, w1⟩ := DataW.trod_int Try.underlying3 g1
    cases e0; cases e1
    exact ⟨n0, n1, rfl, rfl⟩
theorem trod_mark {spare : Nat → Bool} {n : Nat} {c0 c1 c2 : Value} {x : DataW H × List MemPlace} (h : DataW.trod enc Try.prog w base spare held n 33 [c0, c1, c2] = some x) :
    ∃ t : Int × Int × Int, c0 = .int .i64 t.1 ∧ c1 = .int .i64 t.2.1 ∧ c2 = .int .i64 t.2.2 := by
  obtain ⟨xs, n, _, hx, _, hlen, hg⟩ := DataW.trod_struct Try.underlying33 h
  match xs, hlen with
  | [y0, y1], _ =>
    have g0 := hg 0 _ rfl
    have g1 := hg 1 _ rfl
    simp [cellsInt, cellsSpan] at g0 g1
    obtain ⟨n0, e0, rfl, w0⟩ := DataW.trod_int Try.underlying3 g0
    obtain ⟨a, b, rfl, rfl⟩ := trod_span g1
    cases e0
    exact ⟨(n0, a, b), rfl, rfl, rfl⟩
theorem trod_stop {spare : Nat → Bool} {n : Nat} {c0 c1 c2 : Value} {x : DataW H × List MemPlace} (h : DataW.trod enc Try.prog w base spare held n 34 [c0, c1, c2] = some x) :
    ∃ t : Int × Int × Int, c0 = .int .i64 t.1 ∧ c1 = .int .i64 t.2.1 ∧ c2 = .int .i64 t.2.2 := by
  obtain ⟨xs, n, _, hx, _, hlen, hg⟩ := DataW.trod_struct Try.underlying34 h
  match xs, hlen with
  | [y0, y1], _ =>
    have g0 := hg 0 _ rfl
    have g1 := hg 1 _ rfl
    simp [cellsInt, cellsSpan] at g0 g1
    obtain ⟨n0, e0, rfl, w0⟩ := DataW.trod_int Try.underlying3 g0
    obtain ⟨a, b, rfl, rfl⟩ := trod_span g1
    cases e0
    exact ⟨(n0, a, b), rfl, rfl, rfl⟩
theorem open_sps {fuel : Nat} {v : Value} {y : DataW H × List MemPlace} (h : DataW.trod enc Try.prog w base (fun _ => true) held fuel 22 [v] = some y) :
    ∃ (A : Option Addr) (n c : Nat) (S : Nat → Int × Int), v = .slice A n c ∧ SpsIn A n S w.heap.size w := by
  rcases open_slice Try.underlying22 h with ⟨hcs, _⟩ | ⟨a, len, cap, m, n, D, Pl, hcs, _, hl, hm, hmm, _, hi⟩
  · exact ⟨none, 0, 0, fun _ => (0, 0), by simpa using hcs, by omega, fun i hi => absurd hi (by omega)⟩
  · simp only [if_true] at hmm
    have each : ∀ i, i < len → ∃ s : Int × Int, w.cell? (a.add (i * 2)) = some (.int .i64 s.1) ∧ w.cell? ⟨(a.add (i * 2)).block, (a.add (i * 2)).off + 1, none⟩ = some (.int .i64 s.2) := by
      intro i hil
      obtain ⟨cs', hc, ht⟩ := hi i (by omega)
      rw [cellsSpan] at hc
      obtain ⟨_, hcl, hat⟩ := World.cells?_some hc
      match cs', hcl with
      | [c0, c1], _ =>
        obtain ⟨p, q, rfl, rfl⟩ := trod_span ht
        have k0 := hat 0 (by omega)
        have k1 := hat 1 (by omega)
        rw [add_zero] at k0
        rw [add_pos _ 1 (by omega)] at k1
        exact ⟨(p, q), k0, k1⟩
    obtain ⟨S, hS⟩ := choose_lt each
    refine ⟨some a, len, cap, S, by simpa using hcs, len_lt (by omega), fun i hil => ⟨a, rfl, ?_, hS i hil⟩⟩
    have := World.block_lt_of_cell? _ _ (hS i hil).1
    rwa [add_block] at this
theorem open_mks {fuel : Nat} {v : Value} {y : DataW H × List MemPlace} (h : DataW.trod enc Try.prog w base (fun _ => true) held fuel 26 [v] = some y) :
    ∃ (A : Option Addr) (n c : Nat) (P : Nat → Int × Int × Int), v = .slice A n c ∧ TrsIn A n P w.heap.size w := by
  rcases open_slice Try.underlying26 h with ⟨hcs, _⟩ | ⟨a, len, cap, m, n, D, Pl, hcs, _, hl, hm, hmm, _, hi⟩
  · exact ⟨none, 0, 0, fun _ => (0, 0, 0), by simpa using hcs, by omega, fun i hi => absurd hi (by omega)⟩
  · simp only [if_true] at hmm
    have each : ∀ i, i < len → ∃ t : Int × Int × Int, w.cell? (a.add (i * 3)) = some (.int .i64 t.1) ∧ w.cell? ⟨(a.add (i * 3)).block, (a.add (i * 3)).off + 1, none⟩ = some (.int .i64 t.2.1) ∧ w.cell? ⟨(a.add (i * 3)).block, (a.add (i * 3)).off + 2, none⟩ = some (.int .i64 t.2.2) := by
      intro i hil
      obtain ⟨cs', hc, ht⟩ := hi i (by omega)
      rw [cellsMark] at hc
      obtain ⟨_, hcl, hat⟩ := World.cells?_some hc
      match cs', hcl with
      | [c0, c1, c2], _ =>
        obtain ⟨t, rfl, rfl, rfl⟩ := trod_mark ht
        have k0 := hat 0 (by omega)
        have k1 := hat 1 (by omega)
        have k2 := hat 2 (by omega)
        rw [add_zero] at k0
        rw [add_pos _ 1 (by omega)] at k1
        rw [add_pos _ 2 (by omega)] at k2
        exact ⟨t, k0, k1, k2⟩
    obtain ⟨P, hP⟩ := choose_lt each
    refine ⟨some a, len, cap, P, by simpa using hcs, len_lt (by omega), fun i hil => ⟨a, rfl, ?_, hP i hil⟩⟩
    have := World.block_lt_of_cell? _ _ (hP i hil).1
    rwa [add_block] at this
theorem open_sts {fuel : Nat} {v : Value} {y : DataW H × List MemPlace} (h : DataW.trod enc Try.prog w base (fun _ => true) held fuel 23 [v] = some y) :
    ∃ (A : Option Addr) (n c : Nat) (P : Nat → Int × Int × Int), v = .slice A n c ∧ TrsIn A n P w.heap.size w := by
  rcases open_slice Try.underlying23 h with ⟨hcs, _⟩ | ⟨a, len, cap, m, n, D, Pl, hcs, _, hl, hm, hmm, _, hi⟩
  · exact ⟨none, 0, 0, fun _ => (0, 0, 0), by simpa using hcs, by omega, fun i hi => absurd hi (by omega)⟩
  · simp only [if_true] at hmm
    have each : ∀ i, i < len → ∃ t : Int × Int × Int, w.cell? (a.add (i * 3)) = some (.int .i64 t.1) ∧ w.cell? ⟨(a.add (i * 3)).block, (a.add (i * 3)).off + 1, none⟩ = some (.int .i64 t.2.1) ∧ w.cell? ⟨(a.add (i * 3)).block, (a.add (i * 3)).off + 2, none⟩ = some (.int .i64 t.2.2) := by
      intro i hil
      obtain ⟨cs', hc, ht⟩ := hi i (by omega)
      rw [cellsStop] at hc
      obtain ⟨_, hcl, hat⟩ := World.cells?_some hc
      match cs', hcl with
      | [c0, c1, c2], _ =>
        obtain ⟨t, rfl, rfl, rfl⟩ := trod_stop ht
        have k0 := hat 0 (by omega)
        have k1 := hat 1 (by omega)
        have k2 := hat 2 (by omega)
        rw [add_zero] at k0
        rw [add_pos _ 1 (by omega)] at k1
        rw [add_pos _ 2 (by omega)] at k2
        exact ⟨t, k0, k1, k2⟩
    obtain ⟨P, hP⟩ := choose_lt each
    refine ⟨some a, len, cap, P, by simpa using hcs, len_lt (by omega), fun i hil => ⟨a, rfl, ?_, hP i hil⟩⟩
    have := World.block_lt_of_cell? _ _ (hP i hil).1
    rwa [add_block] at this
theorem open_its {fuel : Nat} {v : Value} {y : DataW H × List MemPlace} (h : DataW.trod enc Try.prog w base (fun _ => true) held fuel 29 [v] = some y) :
    ∃ (A : Option Addr) (n c : Nat) (Z : Nat → Int), v = .slice A n c ∧ IntsIn A n Z w.heap.size w ∧ n ≤ c := by
  rcases open_slice1 Try.underlying29 cellsInt h with ⟨hcs, _⟩ | ⟨a, len, cap, m, n, V, D, Pl, hcs, _, hl, hm, hmm, _, hi⟩
  · simp at hcs
    subst hcs
    exact ⟨none, 0, 0, fun _ => 0, rfl, ⟨by omega, fun i hi => absurd hi (by omega)⟩, Nat.le_refl _⟩
  · simp only [if_true] at hmm
    have each : ∀ i, i < len → ∃ z : Int, w.cell? (a.add i) = some (.int .i64 z) := by
      intro i hil
      obtain ⟨k0, ht⟩ := hi i (by omega)
      obtain ⟨z, e, _, _⟩ := DataW.trod_int Try.underlying3 ht
      have e' : V i = .int .i64 z := by simpa using e
      exact ⟨z, by rw [k0, e']⟩
    obtain ⟨Z, hZ⟩ := choose_lt each
    have hml : len ≤ maxLen := by omega
    unfold maxLen at hml
    refine ⟨some a, len, cap, Z, by simpa using hcs, ⟨by omega, fun i hil => ⟨a, rfl, ?_, hZ i hil⟩⟩, hl⟩
    have := World.block_lt_of_cell? _ _ (hZ i hil)
    rwa [add_block] at this
set_option maxRecDepth 100000 in
/-- a list of numbers as an argument -/
theorem open_intl {v : Value} {d : DataW H} {pl : List MemPlace} (hv : Value.okWide Try.prog w r b0 29 v) (h : DataW.Trod enc Try.prog w base (fun _ => true) held 29 v d pl) :
    ∃ (A : Option Addr) (n c : Nat) (Z : Nat → Int), v = .slice A n c ∧ IntsIn A n Z w.heap.size w := by
  obtain ⟨a, l, c, rfl⟩ := okWide_slice Try.underlying29 hv
  obtain ⟨fuel, hf⟩ := h
  obtain ⟨A, n, c2, Z, e, h1, _⟩ := open_its (by simpa [Value.cells] using hf)
  exact ⟨A, n, c2, Z, e, h1⟩
end
/-- a clock: a drum and marks -/
structure Clo where
  d : Drm
  MA : Option Addr
  m : Nat
  mc : Nat
  F : Nat → Int × Int × Int
abbrev Clo.v (c : Clo) : Value := .agg #[.slice c.d.RA c.d.n c.d.rc, .slice c.d.SA c.d.m c.d.sc, .slice c.MA c.m c.mc]
abbrev cloO (c : Clo) : Obj := .cells #[.slice c.d.RA c.d.n c.d.rc, .slice c.d.SA c.d.m c.d.sc, .slice c.MA c.m c.mc] 28
def ClIn (c : Clo) (B : Nat) (w : World) : Prop := DrIn c.d B w ∧ TrsIn c.MA c.m c.F B w
theorem ClIn.up {c : Clo} {B C : Nat} {w w' : World} (h : ClIn c B w) (hb : Below C w w') (hC : B ≤ C) : ClIn c B w' := ⟨h.1.up hb hC, h.2.up hb hC⟩
theorem ClIn.more {c : Clo} {B C : Nat} {w : World} (h : ClIn c B w) (hC : B ≤ C) : ClIn c C w := ⟨h.1.more hC, h.2.more hC⟩
/-- what is asked -/
structure Aks where
  A : Int
  B : Int
  t : Int
  A1 : Option Addr
  n1 : Nat
  c1 : Nat
  Z1 : Nat → Int
  A2 : Option Addr
  n2 : Nat
  c2 : Nat
  Z2 : Nat → Int
  A3 : Option Addr
  n3 : Nat
  c3 : Nat
  Z3 : Nat → Int
  f : Int × Int × Int
  s : Int × Int × Int
  p : Int × Int × Int
abbrev Aks.cs (x : Aks) : Array Value := #[.int .i64 x.A, .int .i64 x.B, .int .i64 x.t, .slice x.A1 x.n1 x.c1, .slice x.A2 x.n2 x.c2, .slice x.A3 x.n3 x.c3, .int .i64 x.f.1, .int .i64 x.f.2.1, .int .i64 x.f.2.2, .int .i64 x.s.1, .int .i64 x.s.2.1, .int .i64 x.s.2.2, .int .i64 x.p.1, .int .i64 x.p.2.1, .int .i64 x.p.2.2]
abbrev Aks.v (x : Aks) : Value := .agg x.cs
abbrev askO (x : Aks) : Obj := .cells x.cs 36
def AkIn (x : Aks) (B : Nat) (w : World) : Prop := IntsIn x.A1 x.n1 x.Z1 B w ∧ IntsIn x.A2 x.n2 x.Z2 B w ∧ IntsIn x.A3 x.n3 x.Z3 B w
theorem AkIn.up {x : Aks} {B C : Nat} {w w' : World} (h : AkIn x B w) (hb : Below C w w') (hC : B ≤ C) : AkIn x B w' := ⟨h.1.up hb hC, h.2.1.up hb hC, h.2.2.up hb hC⟩
theorem AkIn.more {x : Aks} {B C : Nat} {w : World} (h : AkIn x B w) (hC : B ≤ C) : AkIn x C w := ⟨h.1.more hC, h.2.1.more hC, h.2.2.more hC⟩
section
variable {H : Type} {enc : TypeId × Value → H} {w : World} {base b0 : Nat} {r : Reach} {held : Bool}
set_option maxRecDepth 100000 in
theorem open_clock {v : Value} {d : DataW H} {pl : List MemPlace} (hv : Value.okWide Try.prog w r b0 28 v) (h : DataW.Trod enc Try.prog w base (fun _ => true) held 28 v d pl) :
    ∃ c : Clo, v = c.v ∧ ClIn c w.heap.size w := by
  obtain ⟨cs, rfl, hsz⟩ := okWide_struct Try.underlying28 hv
  obtain ⟨l⟩ := cs
  match l, hsz.trans cellsClock with
  | [c0, c1, c2], _ =>
    obtain ⟨fuel, hf⟩ := h
    obtain ⟨xs, n, _, hx, _, hlen, hg⟩ := DataW.trod_struct Try.underlying28 hf
    match xs, hlen with
    | [y0, y1], _ =>
      have g0 := hg 0 _ rfl
      have g1 := hg 1 _ rfl
      simp [Value.cells, cellsDrum, cellsMarks] at g0 g1
      obtain ⟨A, m, c, F, rfl, hF⟩ := open_mks g1
      obtain ⟨xs, n, _, hx, _, hlen, hg⟩ := DataW.trod_struct Try.underlying25 g0
      match xs, hlen with
      | [y0, y1], _ =>
        have g0 := hg 0 _ rfl
        have g1 := hg 1 _ rfl
        simp [Value.cells, cellsSpans, cellsStops] at g0 g1
        obtain ⟨A1, n1, c1, S, rfl, hS⟩ := open_sps g0
        obtain ⟨A2, n2, c2, T, rfl, hT⟩ := open_sts g1
        exact ⟨⟨⟨A1, n1, c1, S, A2, n2, c2, T⟩, A, m, c, F⟩, rfl, ⟨hS, hT⟩, hF⟩
set_option maxRecDepth 100000 in
theorem open_ask {v : Value} {d : DataW H} {pl : List MemPlace} (hv : Value.okWide Try.prog w r b0 36 v) (h : DataW.Trod enc Try.prog w base (fun _ => true) held 36 v d pl) :
    ∃ x : Aks, v = x.v ∧ AkIn x w.heap.size w := by
  obtain ⟨cs, rfl, hsz⟩ := okWide_struct Try.underlying36 hv
  obtain ⟨l⟩ := cs
  match l, hsz.trans cellsAsk with
  | [c0, c1, c2, c3, c4, c5, c6, c7, c8, c9, c10, c11, c12, c13, c14], _ =>
    obtain ⟨fuel, hf⟩ := h
    obtain ⟨xs, n, _, hx, _, hlen, hg⟩ := DataW.trod_struct Try.underlying36 hf
    match xs, hlen with
    | [y0, y1, y2, y3, y4, y5, y6, y7, y8], _ =>
      have g0 := hg 0 _ rfl
      have g1 := hg 1 _ rfl
      have g2 := hg 2 _ rfl
      have g3 := hg 3 _ rfl
      have g4 := hg 4 _ rfl
      have g5 := hg 5 _ rfl
      have g6 := hg 6 _ rfl
      have g7 := hg 7 _ rfl
      have g8 := hg 8 _ rfl
      simp [Value.cells, cellsInt, cellsInts, cellsMark, cellsStop] at g0 g1 g2 g3 g4 g5 g6 g7 g8
      obtain ⟨n0, e0, _, _⟩ := DataW.trod_int Try.underlying3 g0
      obtain ⟨n1, e1, _, _⟩ := DataW.trod_int Try.underlying3 g1
      obtain ⟨n2, e2, _, _⟩ := DataW.trod_int Try.underlying3 g2
      cases e0; cases e1; cases e2
      obtain ⟨A1, m1, k1, Z1, rfl, h1, _⟩ := open_its g3
      obtain ⟨A2, m2, k2, Z2, rfl, h2, _⟩ := open_its g4
      obtain ⟨A3, m3, k3, Z3, rfl, h3, _⟩ := open_its g5
      obtain ⟨t1, rfl, rfl, rfl⟩ := trod_mark g6
      obtain ⟨t2, rfl, rfl, rfl⟩ := trod_mark g7
      obtain ⟨t3, rfl, rfl, rfl⟩ := trod_stop g8
      exact ⟨⟨n0, n1, n2, A1, m1, k1, Z1, A2, m2, k2, Z2, A3, m3, k3, Z3, t1, t2, t3⟩, rfl, h1, h2, h3⟩
end
end Go.Proofs.Ytpikaohodieeaaa
