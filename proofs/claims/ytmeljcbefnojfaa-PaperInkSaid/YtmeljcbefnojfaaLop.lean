import Derived.Test.YtmeljcbefnojfaaLsh
import Derived.Test.YtmeljcbefnojfaaLif
namespace Go.Proofs.Ytmeljcbefnojfaa
open Go.RowKit Go.ChangeShapes Go.WideShapes Go.ChangeAt Go.Deep
/-- .. with the room of each column -/
def SheetC (A : Option Addr) (n : Nat) (M : Nat → List (Int × Int)) (w : World) : Prop := ∃ X : Cls, ClsIn A n X w.heap.size w ∧ Reads X n M ∧ ∀ i, i < n → X.L i ≤ X.C i ∧ X.C i ≤ maxLen
theorem SheetC.up {A : Option Addr} {n : Nat} {M : Nat → List (Int × Int)} {w w' : World} (h : SheetC A n M w) (hb : Below w.heap.size w w') : SheetC A n M w' := by
  obtain ⟨X, h1, h2⟩ := h
  exact ⟨X, (h1.up hb (Nat.le_refl _)).more hb.size, h2⟩
theorem SheetC.sheet {A : Option Addr} {n : Nat} {M : Nat → List (Int × Int)} {w : World} (h : SheetC A n M w) : Sheet A n M w := by
  obtain ⟨X, h1, h2, _⟩ := h
  exact ⟨X, h1, h2⟩
section
variable {H : Type} {enc : TypeId × Value → H} {w : World} {base : Nat} {held : Bool}
theorem open_sps_c {fuel : Nat} {v : Value} {y : DataW H × List MemPlace} (h : DataW.trod enc Try.prog w base (fun _ => true) held fuel 52 [v] = some y) :
    ∃ (A : Option Addr) (n c : Nat) (S : Nat → Int × Int), v = .slice A n c ∧ SpsIn A n S w.heap.size w ∧ n ≤ c ∧ c ≤ maxLen := by
  obtain ⟨A, n, c, S, rfl, hS⟩ := open_sps h
  rcases open_slice Try.underlying52 h with ⟨hcs, _⟩ | ⟨a, len, cap, m, n', D, Pl, hcs, _, hl, hm, _⟩
  · simp at hcs
    obtain ⟨rfl, rfl, rfl⟩ := hcs
    exact ⟨none, 0, 0, S, rfl, hS, Nat.le_refl _, Nat.zero_le _⟩
  · simp at hcs
    obtain ⟨rfl, rfl, rfl⟩ := hcs
    exact ⟨some a, n, c, S, rfl, hS, hl, hm⟩
theorem open_cls_c {fuel : Nat} {v : Value} {y : DataW H × List MemPlace} (h : DataW.trod enc Try.prog w base (fun _ => true) held fuel 27 [v] = some y) :
    ∃ (A : Option Addr) (n c : Nat) (x : Cls), v = .slice A n c ∧ ClsIn A n x w.heap.size w ∧ ∀ i, i < n → x.L i ≤ x.C i ∧ x.C i ≤ maxLen := by
  rcases open_slice1 Try.underlying27 cellsRow h with ⟨hcs, _⟩ | ⟨a, len, cap, m, n, V, D, Pl, hcs, _, hl, hm, hmm, _, hi⟩
  · exact ⟨none, 0, 0, ⟨fun _ => none, fun _ => 0, fun _ => 0, fun _ _ => (0, 0)⟩, by simpa using hcs, ⟨by omega, fun i hi => absurd hi (by omega)⟩, fun i hi => absurd hi (by omega)⟩
  · simp only [if_true] at hmm
    have each : ∀ i, i < len → ∃ r : Option Addr × Nat × Nat × (Nat → Int × Int), w.cell? (a.add i) = some (.slice r.1 r.2.1 r.2.2.1) ∧ SpsIn r.1 r.2.1 r.2.2.2 w.heap.size w ∧ r.2.1 ≤ r.2.2.1 ∧ r.2.2.1 ≤ maxLen := by
      intro i hil
      obtain ⟨k0, ht⟩ := hi i (by omega)
      obtain ⟨A, n, c, S, e, hS, hc⟩ := open_sps_c ht
      exact ⟨(A, n, c, S), by rw [k0, e], hS, hc⟩
    haveI : Inhabited (Option Addr × Nat × Nat × (Nat → Int × Int)) := ⟨(none, 0, 0, fun _ => (0, 0))⟩
    obtain ⟨R, hR⟩ := choose_lt each
    refine ⟨some a, len, cap, ⟨fun i => (R i).1, fun i => (R i).2.1, fun i => (R i).2.2.1, fun i => (R i).2.2.2⟩, by simpa using hcs, ⟨len_lt (by omega), fun i hil => ⟨a, rfl, ?_, (hR i hil).1, (hR i hil).2.1⟩⟩, fun i hil => (hR i hil).2.2⟩
    have := World.block_lt_of_cell? _ _ (hR i hil).1
    rwa [add_block] at this
set_option maxRecDepth 100000 in
theorem open_sheet {r : Reach} {b0 : Nat} {v : Value} {d : DataW H} {pl : List MemPlace} (hv : Value.okWide Try.prog w r b0 29 v) (h : DataW.Trod enc Try.prog w base (fun _ => true) held 29 v d pl) :
    ∃ (A : Option Addr) (n c : Nat) (M : Nat → List (Int × Int)), v = .agg #[.slice A n c] ∧ SheetC A n M w := by
  obtain ⟨cs, rfl, hsz⟩ := okWide_struct Try.underlying29 hv
  obtain ⟨l⟩ := cs
  match l, hsz.trans cellsInked with
  | [c0], _ =>
    obtain ⟨fuel, hf⟩ := h
    obtain ⟨xs, n, _, hx, _, hlen, hg⟩ := DataW.trod_struct Try.underlying29 hf
    match xs, hlen with
    | [y0], _ =>
      have g0 := hg 0 _ rfl
      simp [Value.cells, cellsCols] at g0
      obtain ⟨A, n, c, x, rfl, hx, hc⟩ := open_cls_c g0
      exact ⟨A, n, c, fun c => firstK (x.S c) (x.L c), rfl, x, hx, fun c _ => ⟨(firstK_length _ _).symm, rfl⟩, hc⟩
end
end Go.Proofs.Ytmeljcbefnojfaa
