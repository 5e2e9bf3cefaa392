import Derived.Test.YtmeljcbefnojfaaDat
namespace Go.Proofs.Ytmeljcbefnojfaa
open Go.RowKit Go.ChangeShapes Go.WideShapes Go.ChangeAt Go.Deep
theorem Try.laidOut : laidOutB Try.prog = true := by kernel_rfl
theorem cellsPoint : Try.prog.cellsOf 44 = 3 := by kernel_rfl
theorem cellsRow : Try.prog.cellsOf 52 = 1 := by kernel_rfl
theorem cellsCols : Try.prog.cellsOf 27 = 1 := by kernel_rfl
theorem cellsInked : Try.prog.cellsOf 29 = 1 := by kernel_rfl
theorem len_lt {n : Nat} (h : n ≤ maxLen) : (n : Int) ≤ 9223372036854775807 := by unfold maxLen at h; omega
section
variable {H : Type} {enc : TypeId × Value → H} {w : World} {base : Nat} {held : Bool}
theorem trod_pt {n : Nat} {spare : Nat → Bool} {c0 c1 c2 : Value} {x : DataW H × List MemPlace} (h : DataW.trod enc Try.prog w base spare held n 44 [c0, c1, c2] = some x) :
    ∃ t : Pt, c0 = .int .i64 t.x ∧ c1 = .int .i64 t.y ∧ c2 = .int .i64 t.half := by
  obtain ⟨xs, n, _, hx, _, hlen, hg⟩ := DataW.trod_struct Try.underlying44 h
  match xs, hlen with
  | [y0, y1, y2], _ =>
    have g0 := hg 0 _ rfl
    have g1 := hg 1 _ rfl
    have g2 := hg 2 _ rfl
    simp [cells3] at g0 g1 g2
    obtain ⟨n0, e0, _, _⟩ := DataW.trod_int Try.underlying3 g0
    obtain ⟨n1, e1, _, _⟩ := DataW.trod_int Try.underlying3 g1
    obtain ⟨n2, e2, _, _⟩ := DataW.trod_int Try.underlying3 g2
    cases e0; cases e1; cases e2
    exact ⟨⟨n0, n1, n2⟩, rfl, rfl, rfl⟩
theorem add_zero (a : Addr) : a.add 0 = a := by unfold Addr.add; rw [if_pos rfl]
theorem add_pos (a : Addr) (j : Nat) (h : 0 < j) : a.add j = ⟨a.block, a.off + j, none⟩ := by unfold Addr.add; rw [if_neg (by omega)]
/-- a slice of spans, opened -/
theorem open_sps {fuel : Nat} {v : Value} {y : DataW H × List MemPlace} (h : DataW.trod enc Try.prog w base (fun _ => true) held fuel 52 [v] = some y) :
    ∃ (A : Option Addr) (n c : Nat) (S : Nat → Int × Int), v = .slice A n c ∧ SpsIn A n S w.heap.size w := by
  rcases open_slice Try.underlying52 h with ⟨hcs, _⟩ | ⟨a, len, cap, m, n, D, Pl, hcs, _, hl, hm, hmm, _, hi⟩
  · exact ⟨none, 0, 0, fun _ => (0, 0), by simpa using hcs, by omega, fun i hi => absurd hi (by omega)⟩
  · simp only [if_true] at hmm
    have each : ∀ i, i < len → ∃ s : Int × Int, w.cell? (a.add (i * 2)) = some (.int .i64 s.1) ∧ w.cell? ⟨(a.add (i * 2)).block, (a.add (i * 2)).off + 1, none⟩ = some (.int .i64 s.2) := by
      intro i hil
      obtain ⟨cs', hc, ht⟩ := hi i (by omega)
      rw [cells23] at hc
      obtain ⟨_, hcl, hat⟩ := World.cells?_some hc
      match cs', hcl with
      | [c0, c1], _ =>
        obtain ⟨p, q, rfl, rfl, _⟩ := trod_span ht
        have k0 := hat 0 (by omega)
        have k1 := hat 1 (by omega)
        rw [add_zero] at k0
        rw [add_pos _ 1 (by omega)] at k1
        exact ⟨(p, q), k0, k1⟩
    obtain ⟨S, hS⟩ := choose_lt each
    refine ⟨some a, len, cap, S, by simpa using hcs, len_lt (by omega), fun i hil => ⟨a, rfl, ?_, hS i hil⟩⟩
    have := World.block_lt_of_cell? _ _ (hS i hil).1
    rwa [add_block] at this
/-- a slice of points, opened -/
theorem open_pts {fuel : Nat} {v : Value} {y : DataW H × List MemPlace} (h : DataW.trod enc Try.prog w base (fun _ => true) held fuel 26 [v] = some y) :
    ∃ (A : Option Addr) (n c : Nat) (P : Nat → Pt), v = .slice A n c ∧ PtsIn A n P w.heap.size w := by
  rcases open_slice Try.underlying26 h with ⟨hcs, _⟩ | ⟨a, len, cap, m, n, D, Pl, hcs, _, hl, hm, hmm, _, hi⟩
  · exact ⟨none, 0, 0, fun _ => ⟨0, 0, 0⟩, by simpa using hcs, by omega, fun i hi => absurd hi (by omega)⟩
  · simp only [if_true] at hmm
    have each : ∀ i, i < len → ∃ t : Pt, w.cell? (a.add (i * 3)) = some (.int .i64 t.x) ∧ w.cell? ⟨(a.add (i * 3)).block, (a.add (i * 3)).off + 1, none⟩ = some (.int .i64 t.y) ∧ w.cell? ⟨(a.add (i * 3)).block, (a.add (i * 3)).off + 2, none⟩ = some (.int .i64 t.half) := by
      intro i hil
      obtain ⟨cs', hc, ht⟩ := hi i (by omega)
      rw [cellsPoint] at hc
      obtain ⟨_, hcl, hat⟩ := World.cells?_some hc
      match cs', hcl with
      | [c0, c1, c2], _ =>
        obtain ⟨t, rfl, rfl, rfl⟩ := trod_pt ht
        have k0 := hat 0 (by omega)
        have k1 := hat 1 (by omega)
        have k2 := hat 2 (by omega)
        rw [add_zero] at k0
        rw [add_pos _ 1 (by omega)] at k1
        rw [add_pos _ 2 (by omega)] at k2
        exact ⟨t, k0, k1, k2⟩
    haveI : Inhabited Pt := ⟨⟨0, 0, 0⟩⟩
    obtain ⟨P, hP⟩ := choose_lt each
    refine ⟨some a, len, cap, P, by simpa using hcs, len_lt (by omega), fun i hil => ⟨a, rfl, ?_, hP i hil⟩⟩
    have := World.block_lt_of_cell? _ _ (hP i hil).1
    rwa [add_block] at this
/-- the columns of an inked sheet, opened -/
theorem open_cls {fuel : Nat} {v : Value} {y : DataW H × List MemPlace} (h : DataW.trod enc Try.prog w base (fun _ => true) held fuel 27 [v] = some y) :
    ∃ (A : Option Addr) (n c : Nat) (x : Cls), v = .slice A n c ∧ ClsIn A n x w.heap.size w := by
  rcases open_slice1 Try.underlying27 cellsRow h with ⟨hcs, _⟩ | ⟨a, len, cap, m, n, V, D, Pl, hcs, _, hl, hm, hmm, _, hi⟩
  · exact ⟨none, 0, 0, ⟨fun _ => none, fun _ => 0, fun _ => 0, fun _ _ => (0, 0)⟩, by simpa using hcs, by omega, fun i hi => absurd hi (by omega)⟩
  · simp only [if_true] at hmm
    have each : ∀ i, i < len → ∃ r : Option Addr × Nat × Nat × (Nat → Int × Int), w.cell? (a.add i) = some (.slice r.1 r.2.1 r.2.2.1) ∧ SpsIn r.1 r.2.1 r.2.2.2 w.heap.size w := by
      intro i hil
      obtain ⟨k0, ht⟩ := hi i (by omega)
      obtain ⟨A, n, c, S, e, hS⟩ := open_sps ht
      exact ⟨(A, n, c, S), by rw [k0, e], hS⟩
    haveI : Inhabited (Option Addr × Nat × Nat × (Nat → Int × Int)) := ⟨(none, 0, 0, fun _ => (0, 0))⟩
    obtain ⟨R, hR⟩ := choose_lt each
    refine ⟨some a, len, cap, ⟨fun i => (R i).1, fun i => (R i).2.1, fun i => (R i).2.2.1, fun i => (R i).2.2.2⟩, by simpa using hcs, len_lt (by omega), fun i hil => ⟨a, rfl, ?_, (hR i hil).1, (hR i hil).2⟩⟩
    have := World.block_lt_of_cell? _ _ (hR i hil).1
    rwa [add_block] at this
set_option maxRecDepth 100000 in
theorem open_inked {r : Reach} {b0 : Nat} {v : Value} {d : DataW H} {pl : List MemPlace} (hv : Value.okWide Try.prog w r b0 29 v) (h : DataW.Trod enc Try.prog w base (fun _ => true) held 29 v d pl) :
    ∃ (A : Option Addr) (n c : Nat) (x : Cls), v = .agg #[.slice A n c] ∧ ClsIn A n x w.heap.size w := by
  obtain ⟨cs, rfl, hsz⟩ := okWide_struct Try.underlying29 hv
  obtain ⟨l⟩ := cs
  match l, hsz.trans cellsInked with
  | [c0], _ =>
    obtain ⟨fuel, hf⟩ := h
    obtain ⟨xs, n, _, hx, _, hlen, hg⟩ := DataW.trod_struct Try.underlying29 hf
    match xs, hlen with
    | [y0], _ =>
      have g0 := hg 0 _ rfl
      simp [Value.cells, cellsCols] at g0
      obtain ⟨A, n, c, x, rfl, hx⟩ := open_cls g0
      exact ⟨A, n, c, x, rfl, hx⟩
set_option maxRecDepth 100000 in
theorem open_trace {r : Reach} {b0 : Nat} {v : Value} {d : DataW H} {pl : List MemPlace} (hv : Value.okWide Try.prog w r b0 26 v) (h : DataW.Trod enc Try.prog w base (fun _ => true) held 26 v d pl) :
    ∃ (A : Option Addr) (n c : Nat) (P : Nat → Pt), v = .slice A n c ∧ PtsIn A n P w.heap.size w := by
  obtain ⟨a, l, c, rfl⟩ := okWide_slice Try.underlying26 hv
  obtain ⟨fuel, hf⟩ := h
  exact open_pts (by simpa [Value.cells] using hf)
end
end Go.Proofs.Ytmeljcbefnojfaa
