import Derived.Test.YtmeljcbefnojfaaCut
import Derived.Test.YtmeljcbefnojfaaClm
import Derived.Laws.EntriesVeiled
namespace Go.Proofs.Ytmeljcbefnojfaa
open Go.RowKit
attribute [local go_sem] Oper.semAt_some
/-- the slice in the box bm points at block b -/
def PointsAt (bm b : Nat) (W : World) : Prop := ∃ o len cap, W.cell? ⟨bm, 0, none⟩ = some (.slice (some ⟨b, o, none⟩) len cap)
/-- what a round keeps: all cells but those of bm, and of the block at which the slice in bm points -/
def KpM (bm : Nat) (W W' : World) : Prop := W.heap.size ≤ W'.heap.size ∧ ∀ (b : Nat) (c : Array Value) (t : TypeId) (f : Nat × Nat), W.heap[b]? = some (.cells c t f) → b ≠ bm → ¬ PointsAt bm b W → W'.heap[b]? = some (.cells c t f) ∧ ¬ PointsAt bm b W'
theorem KpM.trans {bm : Nat} {A B C : World} (h : KpM bm A B) (k : KpM bm B C) : KpM bm A C :=
  ⟨Nat.le_trans h.1 k.1, fun b c t f h0 h1 h2 => by obtain ⟨g1, g2⟩ := h.2 b c t f h0 h1 h2; exact k.2 b c t f g1 h1 g2⟩
theorem KpM.putObj {bm : Nat} {w : World} (hbm : bm < w.heap.size) (W : World) (l : Nat) (o o' : Obj) (hl : w.heap.size ≤ l) (h : W.heap[l]? = some o) (hc : o.isCells = false) : KpM bm W (W.putObj l o') := by
  have hne : bm ≠ l := by omega
  have hcell : (W.putObj l o').cell? ⟨bm, 0, none⟩ = W.cell? ⟨bm, 0, none⟩ := World.cell?_of_block (World.putObj_heap_other (by show bm ≠ l; omega))
  refine ⟨(grownBy_putObj' W l o').size, fun b c t f h0 h1 h2 => ⟨?_, ?_⟩⟩
  · have : b ≠ l := fun e => by subst e; rw [h0] at h; cases h; cases hc
    rw [World.putObj_heap_other (by omega)]; exact h0
  · intro ⟨o2, len, cap, h3⟩
    exact h2 ⟨o2, len, cap, by rw [← hcell]; exact h3⟩
theorem grown_of_below {W w1 : World} (h : Below W.heap.size W w1) : W.grownBy w1 none := ⟨h.os, h.tape, h.output, h.size, fun k hk _ => h.block k hk⟩
theorem abides_below {β : Type} {B : Nat} {J : β → World → Prop} (hJ : AbidesFrom B J) {s : β} {W w1 : World} (h : J s W) (hb : Below W.heap.size W w1) : J s w1 :=
  hJ s W w1 none h (grown_of_below hb) (fun r e => by cases e)
theorem heap_of_cell {W : World} {b o : Nat} {v : Value} (h : W.cell? ⟨b, o, none⟩ = some v) : ∃ c t f, W.heap[b]? = some (.cells c t f) := by
  unfold World.cell? at h
  split at h
  · rename_i c t f hb; exact ⟨c, t, f, hb⟩
  · cases h
/-- what a round keeps, where the slice in bm was nil -/
theorem KpM.cell {bm b o : Nat} {W W' : World} {v : Value} (hk : KpM bm W W') (hn : W.cell? ⟨bm, 0, none⟩ = some (.slice none 0 0)) (hb : b ≠ bm) (h : W.cell? ⟨b, o, none⟩ = some v) : W'.cell? ⟨b, o, none⟩ = some v := by
  obtain ⟨c, t, f, hh⟩ := heap_of_cell h
  have := (hk.2 b c t f hh hb (fun ⟨o2, len, cap, h3⟩ => by rw [hn] at h3; cases h3)).1
  rw [← h]
  exact World.cell?_of_block (by rw [show (⟨b, o, none⟩ : Addr).block = b from rfl, this, hh])
theorem KpM.pap {p : Pap} {bm b : Nat} {W W' : World} (hk : KpM bm W W') (hn : W.cell? ⟨bm, 0, none⟩ = some (.slice none 0 0)) (hb : b ≠ bm) (h : HasPap p b W) : HasPap p b W' := by
  unfold HasPap at *
  obtain ⟨p0, p1, p2, p3, p4, p5, p6, p7, p8, p9⟩ := h
  exact ⟨hk.cell hn hb p0, hk.cell hn hb p1, hk.cell hn hb p2, hk.cell hn hb p3, hk.cell hn hb p4, hk.cell hn hb p5, hk.cell hn hb p6, hk.cell hn hb p7, hk.cell hn hb p8, hk.cell hn hb p9⟩
theorem KpM.arc {p : Pap} {bm b : Nat} {W W' : World} (hk : KpM bm W W') (hn : W.cell? ⟨bm, 0, none⟩ = some (.slice none 0 0)) (hb : b ≠ bm) (h : ArcCell p b W) : ArcCell p b W' := by
  rcases h with ⟨h, h1⟩ | ⟨h, b', h1, h2⟩
  · exact .inl ⟨h, hk.cell hn hb h1⟩
  · refine .inr ⟨h, b', hk.cell hn hb h1, hk.pap hn (fun e => ?_) h2⟩
    subst e
    rw [h2.1] at hn
    cases hn
def HasPt (t : Pt) (b : Nat) (w : World) : Prop := w.cell? ⟨b, 0, none⟩ = some (.int .i64 t.x) ∧ w.cell? ⟨b, 1, none⟩ = some (.int .i64 t.y) ∧ w.cell? ⟨b, 2, none⟩ = some (.int .i64 t.half)
def leastOf (p : Pap) (t : Pt) (c : Int) : Int := alongLo p t - (c + 1) * p.pitch + 1
def greatOf (p : Pap) (t : Pt) (c : Int) : Int := alongHi p t - c * p.pitch
/-- the ends of a stretch -/
def SC (P1 P2 : Int → Prop) (lo hi K1 K2 : Int) : Prop := (hi < lo ∧ K1 = lo ∧ K2 = lo) ∨ (lo ≤ hi ∧ Cut P1 lo hi K1 ∧ Cut P2 lo hi K2)
theorem eg_h1 : ∀ args w, (callFunc 126 args).run Try.prog w = .ok (.enter 126 args) w := enters_of Try.func126 (by kernel_rfl) rfl
theorem eg_h2 : ∀ args w, (callFunc 127 args).run Try.prog w = .ok (.enter 127 args) w := enters_of Try.func127 (by kernel_rfl) rfl
theorem eg_h3 : ∀ args w, (callFunc 128 args).run Try.prog w = .ok (.enter 128 args) w := enters_of Try.func128 (by kernel_rfl) rfl
theorem eg_h4 : ∀ args w, (callFunc 129 args).run Try.prog w = .ok (.enter 129 args) w := enters_of Try.func129 (by kernel_rfl) rfl
theorem dec_eq {a b : Prop} [Decidable a] [Decidable b] (h : a ↔ b) : decide a = decide b := by simp [h]
theorem stretch_below (p : Pap) (l g : Int) (ba bl bg : Nat) (lo hi K1 K2 : Int) (W : World) (h : p.Ok) (ha : ArcCell p ba W) (hl : W.cell? ⟨bl, 0, none⟩ = some (.int .i64 l)) (hg : W.cell? ⟨bg, 0, none⟩ = some (.int .i64 g))
    (h0 : 0 ≤ lo) (h1 : lo ≤ 1000000000) (h2 : -1000000000 ≤ hi) (h3 : hi ≤ p.height) (hs : SC (fun y => l ≤ arcOf p y) (fun y => g < arcOf p y) lo hi K1 K2) :
    Calls Try.prog 125 #[.agg #[.int .i64 lo, .int .i64 hi], .func (.func 126) #[] #[.pointer (some ⟨ba, 0, none⟩), .pointer (some ⟨bl, 0, none⟩)], .func (.func 127) #[] #[.pointer (some ⟨ba, 0, none⟩), .pointer (some ⟨bg, 0, none⟩)]] W fun e w' => e = .returned (.agg #[.int .i64 K1, .int .i64 (K2 - 1)]) ∧ Below W.heap.size W w' := by
  rcases hs with ⟨hlt, rfl, rfl⟩ | ⟨hle, c1, c2⟩
  · exact stretch_none _ _ _ hi W (by omega) h1 h2 hlt rfl rfl
  · have hh := h.height
    refine stretch_some _ _ _ _ K1 K2 lo hi W h0 (by omega) hle eg_h1 eg_h2 ?_ ?_ ⟨c1.1, c1.2.1⟩ ⟨c2.1, c2.2.1⟩
    · intro W' y hb y1 y2
      have := hi1_any p y l ba bl W' h (by omega) (ha.up hb) (cell_up hb (World.block_lt_of_cell? _ _ hl) hl)
      rw [dec_eq (c1.2.2 y y1 y2)] at this
      exact this
    · intro W' y hb y1 y2
      have := hi2_any p y g ba bg W' h (by omega) (ha.up hb) (cell_up hb (World.block_lt_of_cell? _ _ hg) hg)
      rw [dec_eq (c2.2.2 y y1 y2)] at this
      exact this
theorem stretch_above (p : Pap) (l g : Int) (ba bl bg : Nat) (lo hi K1 K2 : Int) (W : World) (h : p.Ok) (ha : ArcCell p ba W) (hl : W.cell? ⟨bl, 0, none⟩ = some (.int .i64 l)) (hg : W.cell? ⟨bg, 0, none⟩ = some (.int .i64 g))
    (h0 : 0 ≤ lo) (h1 : lo ≤ 1000000000) (h2 : -1000000000 ≤ hi) (h3 : hi ≤ p.height) (hs : SC (fun y => arcOf p y ≤ g) (fun y => arcOf p y < l) lo hi K1 K2) :
    Calls Try.prog 125 #[.agg #[.int .i64 lo, .int .i64 hi], .func (.func 128) #[] #[.pointer (some ⟨ba, 0, none⟩), .pointer (some ⟨bg, 0, none⟩)], .func (.func 129) #[] #[.pointer (some ⟨ba, 0, none⟩), .pointer (some ⟨bl, 0, none⟩)]] W fun e w' => e = .returned (.agg #[.int .i64 K1, .int .i64 (K2 - 1)]) ∧ Below W.heap.size W w' := by
  rcases hs with ⟨hlt, rfl, rfl⟩ | ⟨hle, c1, c2⟩
  · exact stretch_none _ _ _ hi W (by omega) h1 h2 hlt rfl rfl
  · have hh := h.height
    refine stretch_some _ _ _ _ K1 K2 lo hi W h0 (by omega) hle eg_h3 eg_h4 ?_ ?_ ⟨c1.1, c1.2.1⟩ ⟨c2.1, c2.2.1⟩
    · intro W' y hb y1 y2
      have := hi3_any p y g ba bg W' h (by omega) (ha.up hb) (cell_up hb (World.block_lt_of_cell? _ _ hg) hg)
      rw [dec_eq (c1.2.2 y y1 y2)] at this
      exact this
    · intro W' y hb y1 y2
      have := hi4_any p y l ba bl W' h (by omega) (ha.up hb) (cell_up hb (World.block_lt_of_cell? _ _ hl) hl)
      rw [dec_eq (c2.2.2 y y1 y2)] at this
      exact this
end Go.Proofs.Ytmeljcbefnojfaa
