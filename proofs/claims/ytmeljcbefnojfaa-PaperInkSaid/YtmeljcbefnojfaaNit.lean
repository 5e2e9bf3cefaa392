import Derived.Test.YtmeljcbefnojfaaIt
namespace Go.Proofs.Ytmeljcbefnojfaa
open Go.RowKit
/-- the slice in a cell points at a block -/
def PtsAt (bm o b : Nat) (W : World) : Prop := ∃ o2 len cap, W.cell? ⟨bm, o, none⟩ = some (.slice (some ⟨b, o2, none⟩) len cap)
/-- what a round keeps: all cells but those of bm, and of the block at which the slice in its cell o points -/
def KpN (bm o : Nat) (W W' : World) : Prop := W.heap.size ≤ W'.heap.size ∧ ∀ (b : Nat) (c : Array Value) (t : TypeId) (f : Nat × Nat), W.heap[b]? = some (.cells c t f) → b ≠ bm → ¬ PtsAt bm o b W → W'.heap[b]? = some (.cells c t f) ∧ ¬ PtsAt bm o b W'
theorem KpN.trans {bm o : Nat} {A B C : World} (h : KpN bm o A B) (k : KpN bm o B C) : KpN bm o A C :=
  ⟨Nat.le_trans h.1 k.1, fun b c t f h0 h1 h2 => by obtain ⟨g1, g2⟩ := h.2 b c t f h0 h1 h2; exact k.2 b c t f g1 h1 g2⟩
theorem KpN.putObj {bm o : Nat} {w : World} (hbm : bm < w.heap.size) (W : World) (l : Nat) (x x' : Obj) (hl : w.heap.size ≤ l) (h : W.heap[l]? = some x) (hc : x.isCells = false) : KpN bm o W (W.putObj l x') := by
  have hne : bm ≠ l := by omega
  have hcell : (W.putObj l x').cell? ⟨bm, o, none⟩ = W.cell? ⟨bm, o, none⟩ := World.cell?_of_block (World.putObj_heap_other (by show bm ≠ l; omega))
  refine ⟨(grownBy_putObj' W l x').size, fun b c t f h0 h1 h2 => ⟨?_, ?_⟩⟩
  · have : b ≠ l := fun e => by subst e; rw [h0] at h; cases h; cases hc
    rw [World.putObj_heap_other (by omega)]; exact h0
  · intro ⟨o2, len, cap, h3⟩
    exact h2 ⟨o2, len, cap, by rw [← hcell]; exact h3⟩
/-- the cell lies below a block, and so does what its slice points at -/
def PtB (bm o B : Nat) (W : World) : Prop := bm < B ∧ B ≤ W.heap.size ∧ ∀ b, PtsAt bm o b W → b < B
theorem PtB.up {bm o B C : Nat} {W W' : World} (h : PtB bm o B W) (hb : Below C W W') (hC : B ≤ C) : PtB bm o B W' :=
  ⟨h.1, Nat.le_trans h.2.1 hb.size, fun b ⟨o2, len, cap, e⟩ => h.2.2 b ⟨o2, len, cap, (hb.cell (p := ⟨bm, o, none⟩) (Nat.lt_of_lt_of_le h.1 hC)).symm.trans e⟩⟩
theorem KpN.cell {bm o B b j : Nat} {W W' : World} {v : Value} (hk : KpN bm o W W') (hn : PtB bm o B W) (hb : B ≤ b) (h : W.cell? ⟨b, j, none⟩ = some v) : W'.cell? ⟨b, j, none⟩ = some v := by
  obtain ⟨c, t, f, hh⟩ := heap_of_cell h
  have := (hk.2 b c t f hh (by have := hn.1; omega) (fun h3 => by have := hn.2.2 b h3; omega)).1
  rw [← h]
  exact World.cell?_of_block (by rw [show (⟨b, j, none⟩ : Addr).block = b from rfl, this, hh])
theorem KpN.pap {p : Pap} {bm o B b : Nat} {W W' : World} (hk : KpN bm o W W') (hn : PtB bm o B W) (hb : B ≤ b) (h : HasPap p b W) : HasPap p b W' := by
  unfold HasPap at *
  obtain ⟨p0, p1, p2, p3, p4, p5, p6, p7, p8, p9⟩ := h
  exact ⟨hk.cell hn hb p0, hk.cell hn hb p1, hk.cell hn hb p2, hk.cell hn hb p3, hk.cell hn hb p4, hk.cell hn hb p5, hk.cell hn hb p6, hk.cell hn hb p7, hk.cell hn hb p8, hk.cell hn hb p9⟩
/-- an arc's function, with the paper that it refers to from a block on -/
def ArcCellB (B : Nat) (p : Pap) (b : Nat) (W : World) : Prop :=
  (p.radius = 0 ∧ W.cell? ⟨b, 0, none⟩ = some (.func (.func 121) #[] #[])) ∨ (¬ p.radius = 0 ∧ ∃ b', B ≤ b' ∧ W.cell? ⟨b, 0, none⟩ = some (.func (.func 122) #[] #[.pointer (some ⟨b', 0, none⟩)]) ∧ HasPap p b' W)
theorem ArcCellB.arc {B : Nat} {p : Pap} {b : Nat} {W : World} (h : ArcCellB B p b W) : ArcCell p b W := h.imp id fun ⟨h, b', _, h1, h2⟩ => ⟨h, b', h1, h2⟩
theorem ArcCellB.up {B : Nat} {p : Pap} {b : Nat} {W w1 : World} (h : ArcCellB B p b W) (hb : Below W.heap.size W w1) : ArcCellB B p b w1 := by
  rcases h with ⟨h, h1⟩ | ⟨h, b', h0, h1, h2⟩
  · exact .inl ⟨h, cell_up hb (World.block_lt_of_cell? _ _ h1) h1⟩
  · exact .inr ⟨h, b', h0, cell_up hb (World.block_lt_of_cell? _ _ h1) h1, h2.up hb h2.block⟩
theorem KpN.arc {p : Pap} {bm o B b : Nat} {W W' : World} (hk : KpN bm o W W') (hn : PtB bm o B W) (hb : B ≤ b) (h : ArcCellB B p b W) : ArcCell p b W' := by
  rcases h with ⟨h, h1⟩ | ⟨h, b', h0, h1, h2⟩
  · exact .inl ⟨h, hk.cell hn hb h1⟩
  · exact .inr ⟨h, b', hk.cell hn hb h1, hk.pap hn h0 h2⟩
end Go.Proofs.Ytmeljcbefnojfaa
