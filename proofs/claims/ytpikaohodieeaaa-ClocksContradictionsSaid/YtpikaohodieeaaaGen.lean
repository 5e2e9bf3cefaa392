/- What all seats have in common: worlds, rows of numbers and of spans, lists that are yielded, regions in the order of the text. -/
import Derived.Test.YtpikaohodieeaaaRows
import Derived.WalkKit
import Derived.WalkSpells
import Derived.WalkLawsBesides
import Derived.Lib.Hide
import Derived.Deep.QuietTactic
import Derived.BigQuiet
import Derived.StillTailTactics
import Derived.ProofKit
import Derived.Shelf.SlSorted.Search
import Derived.Shelf.RegionOpen
import Derived.Deep.RegionHeld3
import Derived.BigRegion
import Derived.RegionTactic
import Derived.OwnWalk
import Derived.Deep.AppendLies
import Derived.OwnWalkIn
import Derived.TacticsInMore
import Derived.LoopNIn
import Derived.LoopIn
import Derived.RangeFuncNested
import Derived.RangeFuncBound
import Derived.RangeFuncCalls
import Derived.RangeFuncLeaves
import Derived.Shelf.Abstract
import Derived.Maps.AppendAt
import Derived.RangeFuncOne
import Derived.Deep.Matrix
import Derived.Carry
import Derived.Deep.DeepCutAuto
import Derived.Laws.MakeOwn
namespace Go.Proofs.Ytpikaohodieeaaa
open Go.RowKit
set_option linter.unusedSimpArgs false
set_option linter.unusedVariables false
theorem bcell {W w1 : World} (hb : Below W.heap.size W w1) : (∀ b o, b < W.heap.size → w1.cell? ⟨b, o, none⟩ = W.cell? ⟨b, o, none⟩) ∧ (∀ b o, b < W.heap.size → w1.frozen? ⟨b, o, none⟩ = W.frozen? ⟨b, o, none⟩) :=
  ⟨fun b o h => hb.cell (p := ⟨b, o, none⟩) h, fun b o h => hb.frozen (p := ⟨b, o, none⟩) h⟩
def btw (n a b : Int) : Bool := decide (a ≤ n ∧ n ≤ b)
theorem box1 (w : World) (o : Obj) : Below w.heap.size w (w.alloc o) := (Below.refl _ _).alloc (Nat.le_refl _) _
theorem box2 (w : World) (o o2 : Obj) : Below w.heap.size w ((w.alloc o).alloc o2) := (box1 w o).alloc (by simp only [World.size_alloc]; omega) _
theorem box3 (w : World) (o o2 o3 : Obj) : Below w.heap.size w (((w.alloc o).alloc o2).alloc o3) := (box2 w o o2).alloc (by simp only [World.size_alloc]; omega) _
theorem box4 (w : World) (o o2 o3 o4 : Obj) : Below w.heap.size w ((((w.alloc o).alloc o2).alloc o3).alloc o4) := (box3 w o o2 o3).alloc (by simp only [World.size_alloc]; omega) _
theorem set1 {B b : Nat} {a w : World} (h : Below B a w) (hb : B ≤ b) (o : Nat) (u : Value) : Below B a (w.setCell ⟨b, o, none⟩ u) := h.setCell (p := ⟨b, o, none⟩) hb u
theorem cell_up {w1 W : World} {b o : Nat} {v : Value} (hb : Below W.heap.size W w1) (hl : b < W.heap.size) (h : W.cell? ⟨b, o, none⟩ = some v) : w1.cell? ⟨b, o, none⟩ = some v := (hb.cell (p := ⟨b, o, none⟩) hl).trans h
theorem ret_int {k : IntKind} {a b : Int} (h : a = b) : Ending.returned (.int k a) = .returned (.int k b) := by rw [h]
theorem low_cell {B : Nat} {W w1 : World} {b o : Nat} {v : Value} (hb : Below B W w1) (hl : b < B) (h : W.cell? ⟨b, o, none⟩ = some v) : w1.cell? ⟨b, o, none⟩ = some v := (hb.cell (p := ⟨b, o, none⟩) hl).trans h
theorem low_frozen {B : Nat} {W w1 : World} {b o : Nat} {v : Bool} (hb : Below B W w1) (hl : b < B) (h : W.frozen? ⟨b, o, none⟩ = v) : w1.frozen? ⟨b, o, none⟩ = v := (hb.frozen (p := ⟨b, o, none⟩) hl).trans h
theorem still_tail {P : Program} {id : Nat} {Q : Exit → Act → World → Prop} {a : Act} {w : World} {l : List Oper} (n : Nat) (hm : P.follows .mixedOrders = true) (hB : Region.lexTailB .any l.toArray n = true)
    (h : wpStill P l.toArray w.drew (fun a' => wpList P l.toArray Q (l.drop n) a' w.drew) (l.take n) a) : (Code.region id l.toArray true).wp P Q a w := wp_region_still_tail n hm hB h
theorem add_block (a : Addr) (n : Nat) : (a.add n).block = a.block := by unfold Addr.add; split <;> rfl
theorem add_adds (a : Addr) (i j : Nat) : (a.add i).add j = a.add (i + j) := by
  unfold Addr.add
  by_cases hi : i = 0 <;> by_cases hj : j = 0 <;> simp [hi, hj, Nat.add_assoc]
theorem add_at (a : Addr) (m j : Nat) (hj : 0 < j) : (⟨(a.add m).block, (a.add m).off + j, none⟩ : Addr) = a.add (m + j) := by
  rw [← add_adds]
  generalize a.add m = b
  unfold Addr.add
  rw [if_neg (by omega)]
/-- a set of spans reads as it says, below a block -/
def SpsIn (A : Option Addr) (n : Nat) (S : Nat → Int × Int) (B : Nat) (w : World) : Prop :=
  (n : Int) ≤ 9223372036854775807 ∧ ∀ i, i < n → ∃ a : Addr, A = some a ∧ a.block < B ∧ w.cell? (a.add (i * 2)) = some (.int .i64 (S i).1) ∧ w.cell? ⟨(a.add (i * 2)).block, (a.add (i * 2)).off + 1, none⟩ = some (.int .i64 (S i).2)
theorem SpsIn.up {A : Option Addr} {n : Nat} {S : Nat → Int × Int} {B C : Nat} {w w' : World} (h : SpsIn A n S B w) (hb : Below C w w') (hC : B ≤ C) : SpsIn A n S B w' :=
  ⟨h.1, fun i hi => by
    obtain ⟨a, e, hl, h1, h2⟩ := h.2 i hi
    exact ⟨a, e, hl, (hb.cell (by simp only [add_block]; omega)).trans h1, (hb.cell (by simp only [add_block]; omega)).trans h2⟩⟩
theorem SpsIn.more {A : Option Addr} {n : Nat} {S : Nat → Int × Int} {B C : Nat} {w : World} (h : SpsIn A n S B w) (hC : B ≤ C) : SpsIn A n S C w :=
  ⟨h.1, fun i hi => by
    obtain ⟨a, e, hl, h1, h2⟩ := h.2 i hi
    exact ⟨a, e, by omega, h1, h2⟩⟩
theorem len_lt {n : Nat} (h : n ≤ maxLen) : (n : Int) ≤ 9223372036854775807 := by unfold maxLen at h; omega
theorem add_zero (a : Addr) : a.add 0 = a := by unfold Addr.add; rw [if_pos rfl]
theorem add_pos (a : Addr) (j : Nat) (h : 0 < j) : a.add j = ⟨a.block, a.off + j, none⟩ := by unfold Addr.add; rw [if_neg (by omega)]
theorem own_same {w w' : World} {B n size : Nat} {e : TypeId} {v : Value} {xs : List Value} (h : w.ownsRow B e size v n xs) (hb : ∀ g, v.ownBlock = some g → w'.heap[g]? = w.heap[g]?) : w'.ownsRow B e size v n xs := by
  obtain ⟨h0, hx | ⟨g, cap, c2, e1, e2, e3, e4⟩⟩ := h
  · exact ⟨h0, .inl hx⟩
  · exact ⟨h0, .inr ⟨g, cap, c2, e1, e2, (hb g (by rw [e1]; rfl)).trans e3, e4⟩⟩
theorem own_block {w : World} {B n size : Nat} {e : TypeId} {v : Value} {xs : List Value} (h : w.ownsRow B e size v n xs) {g : Nat} (hg : v.ownBlock = some g) : B ≤ g ∧ g < w.heap.size ∧ ∃ cap, v = .slice (some ⟨g, 0, none⟩) n cap := by
  obtain ⟨h0, hx | ⟨g', cap, c2, e1, e2, e3, e4⟩⟩ := h
  · rw [hx.1] at hg; cases hg
  · have : g' = g := by rw [e1] at hg; simpa [Value.ownBlock] using hg
    subst this
    exact ⟨e2, (Array.getElem?_eq_some_iff.1 e3).1, cap, e1⟩
/-- a slice of numbers reads as it says, below a block -/
def IntsIn (A : Option Addr) (n : Nat) (Z : Nat → Int) (B : Nat) (w : World) : Prop :=
  (n : Int) ≤ 9223372036854775807 ∧ ∀ i, i < n → ∃ a : Addr, A = some a ∧ a.block < B ∧ w.cell? (a.add i) = some (.int .i64 (Z i))
theorem IntsIn.up {A : Option Addr} {n : Nat} {Z : Nat → Int} {B C : Nat} {w w' : World} (h : IntsIn A n Z B w) (hb : Below C w w') (hC : B ≤ C) : IntsIn A n Z B w' :=
  ⟨h.1, fun i hi => by
    obtain ⟨a, e, hl, h1⟩ := h.2 i hi
    exact ⟨a, e, hl, (hb.cell (by simp only [add_block]; omega)).trans h1⟩⟩
theorem IntsIn.more {A : Option Addr} {n : Nat} {Z : Nat → Int} {B C : Nat} {w : World} (h : IntsIn A n Z B w) (hC : B ≤ C) : IntsIn A n Z C w :=
  ⟨h.1, fun i hi => by
    obtain ⟨a, e, hl, h1⟩ := h.2 i hi
    exact ⟨a, e, by omega, h1⟩⟩
theorem ownsRow_keep {w W : World} {base e size n g cap : Nat} {xs : List Value} (h : w.ownsRow base e size (.slice (some ⟨g, 0, none⟩) n cap) n xs) (hb : Below w.heap.size w W) : W.ownsRow base e size (.slice (some ⟨g, 0, none⟩) n cap) n xs :=
  h.kept (row := none) ⟨hb.os, hb.tape, hb.output, hb.size, fun k hk _ => hb.block k hk⟩ (.inr (by intro h; cases h))
theorem own_mono {w : World} {B C : Nat} {e : TypeId} {size n : Nat} {v : Value} {xs : List Value} (h : w.ownsRow B e size v n xs) (hC : C ≤ B) : w.ownsRow C e size v n xs := by
  obtain ⟨h0, hx | ⟨g, cap, cur, e1, e3, h4⟩⟩ := h
  · exact ⟨h0, .inl hx⟩
  · exact ⟨h0, .inr ⟨g, cap, cur, e1, by omega, h4⟩⟩
theorem own_keep {W W' : World} {B n size : Nat} {e : TypeId} {v : Value} {xs : List Value} (h : W.ownsRow B e size v n xs) (hb : Below W.heap.size W W') : W'.ownsRow B e size v n xs := by
  obtain ⟨h1, h2 | ⟨g, cap, cur, rfl, e3, e4⟩⟩ := id h
  · exact ⟨h1, .inl h2⟩
  · exact ownsRow_keep h hb
theorem new1 (W : World) (x : Int) : ∀ j u, ([.int .i64 x] : List Value)[j]? = some u → (W.alloc (.cells #[.int .i64 x] 3)).cell? ((⟨W.heap.size, 0, none⟩ : Addr).add j) = some u := by
  intro j u hj
  match j with
  | 0 => cases hj; unfold Addr.add; rw [if_pos rfl]; go_simp
  | j + 1 => simp at hj
theorem ret_tup2 {a b c d : Int} (h : a = c) (h2 : b = d) : Ending.returned (.tuple #[.int .i64 a, .int .i64 b]) = .returned (.tuple #[.int .i64 c, .int .i64 d]) := by rw [h, h2]
def intsZ (l : List Int) : List Value := l.map fun z => .int .i64 z
theorem intsZ_snoc (l : List Int) (z : Int) : intsZ (l ++ [z]) = intsZ l ++ [.int .i64 z] := by simp [intsZ]
/-- a row of numbers, made from a world on -/
structure RowZ (w0 : World) (l : List Int) (v : Value) (wr : World) : Prop where
  below : Below w0.heap.size w0 wr
  own : wr.ownsRow w0.heap.size 3 1 v l.length (intsZ l)
theorem RowZ.app {w0 wr w1 : World} {l : List Int} {v v' : Value} {o : Obj} {z : Int} (h : RowZ w0 l v wr) (hg : (wr.alloc o).grownBy w1 v.ownBlock)
    (h' : w1.ownsRow w0.heap.size 3 1 v' (l.length + 1) (intsZ l ++ [.int .i64 z])) : RowZ w0 (l ++ [z]) v' w1 := by
  obtain ⟨h1, h2⟩ := h
  refine ⟨?_, ?_⟩
  · refine (h1.alloc h1.size o).grown hg (by simp only [World.size_alloc]; have := h1.size; omega) (fun r e => ?_)
    obtain ⟨_, hx | ⟨g, cap, cur, e1, e3, _⟩⟩ := h2
    · rw [hx.1] at e; cases e
    · rw [e1] at e
      simp [Value.ownBlock] at e
      omega
  · rw [intsZ_snoc, List.length_append]; exact h'
/-- a list of numbers as blots -/
def asZ (l : List Int) (i : Nat) : Int := l.getD i 0
theorem asZ_at {l : List Int} {i : Nat} (h : i < l.length) : asZ l i = l[i] := by simp [asZ, h]
/-- a row of numbers, as it is read -/
theorem row_ints {w : World} {B : Nat} {l : List Int} {v : Value} (h : w.ownsRow B 3 1 v l.length (intsZ l)) (hl : l.length ≤ 1000) : ∃ A c, v = .slice A l.length c ∧ IntsIn A l.length (asZ l) w.heap.size w := by
  obtain ⟨h0, hx | ⟨g, cap, cur, e1, e2, e3, e4, e5, e6, e7⟩⟩ := h
  · refine ⟨none, 0, by rw [hx.1, hx.2], by omega, fun i hi => ?_⟩
    omega
  · refine ⟨some ⟨g, 0, none⟩, cap, e1, by omega, fun i hi => ⟨_, rfl, (Array.getElem?_eq_some_iff.1 e3).1, ?_⟩⟩
    rw [Nat.mul_one] at e7
    have h1 : cur[i]? = some (.int .i64 (asZ l i)) := by
      have h2 : (intsZ l)[i]? = some (.int .i64 (asZ l i)) := by simp [intsZ, asZ, hi]
      rw [← e7, List.getElem?_take_of_lt hi] at h2
      simpa using h2
    have h3 : (⟨g, 0, none⟩ : Addr).add i = ⟨g, i, none⟩ := by rw [Addr.add_lit, Nat.zero_add]
    rw [h3]
    simp [World.cell?, e3, h1]
theorem Try.infoInt : (Try.prog.info? 3).map (fun i => (i.zero, i.size, i.bytes)) = some (some (.int .i64 0), 1, 8) := by kernel_rfl
theorem Try.infoSpan : (Try.prog.info? 31).map (fun i => (i.zero, i.size, i.bytes)) = some (some (.agg #[.int .i64 0, .int .i64 0]), 2, 16) := by kernel_rfl
theorem nextB {a b c : World} (h : Below a.heap.size a b) (h2 : Below b.heap.size b c) : Below a.heap.size a c := h.trans (h2.mono h.size)
theorem run_make_spans (n : Nat) (hn : n ≤ 1000) (w : World) :
    (Instr.makeSlice 22 (.int .i64 (n : Int)) (.int .i64 (n : Int))).run Try.prog w = .ok (.slice (some ⟨w.heap.size, 0, none⟩) n n) (w.alloc (.cells (madeCells #[.int .i64 0, .int .i64 0] (n * 2)) 31)) := by
  obtain ⟨i0, hi0, hz0, hz1, hz2⟩ := info_parts Try.infoSpan
  have hr := run_make (P := Try.prog) (w := w) 22 31 i0 _ Try.underlying22 hi0 hz0 .i64 .i64 n n (by omega) (by omega) (by rw [hz2]; omega) (by omega)
  rw [hz1] at hr
  simp only [Int.toNat_natCast] at hr
  exact hr
/-- a block of spans, known whole -/
structure SpR (g n : Nat) (S : Nat → Int × Int) (w : World) : Prop where
  lt : g < w.heap.size
  c0 : ∀ i, i < n → w.cell? ⟨g, i * 2, none⟩ = some (.int .i64 (S i).1)
  c1 : ∀ i, i < n → w.cell? ⟨g, i * 2 + 1, none⟩ = some (.int .i64 (S i).2)
  f : ∀ o, w.frozen? ⟨g, o, none⟩ = false
theorem SpR.up {g n : Nat} {S : Nat → Int × Int} {w w' : World} (h : SpR g n S w) (hb : Below w.heap.size w w') : SpR g n S w' :=
  ⟨Nat.lt_of_lt_of_le h.lt hb.size, fun i hi => cell_up hb h.lt (h.c0 i hi), fun i hi => cell_up hb h.lt (h.c1 i hi), fun o => low_frozen hb h.lt (h.f o)⟩
theorem SpR.set {g n k : Nat} {S : Nat → Int × Int} {w : World} {x y : Int} (h : SpR g n S w) (hk : k < n) : SpR g n (fun i => if i = k then (x, y) else S i) ((w.setCell ⟨g, k * 2, none⟩ (.int .i64 x)).setCell ⟨g, k * 2 + 1, none⟩ (.int .i64 y)) := by
  refine ⟨by have := h.lt; go_simp, fun i hi => ?_, fun i hi => ?_, fun o => ?_⟩
  · have e := h.c0 i hi
    by_cases hik : i = k
    · subst hik
      rw [World.cell?_setCell_other _ _ _ _ (by intro e; have e2 := congrArg Addr.off e; simp only at e2; omega), World.cell?_setCell_same' _ _ _ (by rw [e]; rfl), if_pos rfl]
    · rw [World.cell?_setCell_other _ _ _ _ (by intro e; have e2 := congrArg Addr.off e; simp only at e2; omega), World.cell?_setCell_other _ _ _ _ (by intro e; have e2 := congrArg Addr.off e; simp only at e2; omega), e, if_neg hik]
  · have e := h.c1 i hi
    by_cases hik : i = k
    · subst hik
      rw [World.cell?_setCell_same' _ _ _ (by rw [World.cell?_setCell_other _ _ _ _ (by intro e; have e2 := congrArg Addr.off e; simp only at e2; omega), e]; rfl), if_pos rfl]
    · rw [World.cell?_setCell_other _ _ _ _ (by intro e; have e2 := congrArg Addr.off e; simp only at e2; omega), World.cell?_setCell_other _ _ _ _ (by intro e; have e2 := congrArg Addr.off e; simp only at e2; omega), e, if_neg hik]
  · rw [World.frozen?_setCell, World.frozen?_setCell]; exact h.f o
theorem SpR.new (w : World) (n : Nat) : SpR w.heap.size n (fun _ => (0, 0)) (w.alloc (.cells (madeCells #[.int .i64 0, .int .i64 0] (n * 2)) 31)) := by
  have hh : (w.alloc (.cells (madeCells #[.int .i64 0, .int .i64 0] (n * 2)) 31)).heap[w.heap.size]? = some (.cells (madeCells #[.int .i64 0, .int .i64 0] (n * 2)) 31 (0, 0)) := World.alloc_heap_new w _
  refine ⟨by simp, fun i hi => ?_, fun i hi => ?_, fun o => ?_⟩
  · have h : i * 2 < n * 2 := by omega
    simp only [World.cell?, hh]
    simp [madeCells, h, Nat.mul_mod_left]
  · have h : i * 2 + 1 < n * 2 := by omega
    have h2 : (i * 2 + 1) % 2 = 1 := by omega
    simp only [World.cell?, hh]
    simp [madeCells, h, h2]
  · simp only [World.frozen?, hh]
    simp
def Bd (M : Int) (s : Int × Int) : Prop := -M ≤ s.1 ∧ s.1 ≤ M ∧ -M ≤ s.2 ∧ s.2 ≤ M
theorem Bd.more {M N : Int} {s : Int × Int} (h : Bd M s) (hN : M ≤ N) : Bd N s := by unfold Bd at *; omega
theorem cell_ne {w : World} {p q : Addr} {u v : Value} (h : w.cell? p = some v) (hne : p.block ≠ q.block) : (w.setCell q u).cell? p = some v := by
  rw [World.cell?_setCell_other _ _ _ _ (by intro e; exact hne (by rw [e]))]; exact h
theorem run_make_ints (n : Nat) (hn : n ≤ 1000) (w : World) :
    (Instr.makeSlice 29 (.int .i64 (n : Int)) (.int .i64 (n : Int))).run Try.prog w = .ok (.slice (some ⟨w.heap.size, 0, none⟩) n n) (w.alloc (.cells (madeCells #[.int .i64 0] n) 3)) := by
  obtain ⟨i0, hi0, hz0, hz1, hz2⟩ := info_parts Try.infoInt
  have hr := run_make (P := Try.prog) (w := w) 29 3 i0 _ Try.underlying29 hi0 hz0 .i64 .i64 n n (by omega) (by omega) (by rw [hz2]; omega) (by omega)
  rw [hz1] at hr
  simp only [Int.toNat_natCast, Nat.mul_one] at hr
  exact hr
/-- a block of numbers, known whole -/
structure InR (g n : Nat) (Z : Nat → Int) (w : World) : Prop where
  lt : g < w.heap.size
  c : ∀ i, i < n → w.cell? ⟨g, i, none⟩ = some (.int .i64 (Z i))
  f : ∀ o, w.frozen? ⟨g, o, none⟩ = false
theorem InR.up {g n : Nat} {Z : Nat → Int} {w w' : World} (h : InR g n Z w) (hb : Below w.heap.size w w') : InR g n Z w' :=
  ⟨Nat.lt_of_lt_of_le h.lt hb.size, fun i hi => cell_up hb h.lt (h.c i hi), fun o => low_frozen hb h.lt (h.f o)⟩
theorem InR.set {g n k : Nat} {Z : Nat → Int} {w : World} {x : Int} (h : InR g n Z w) (hk : k < n) : InR g n (fun i => if i = k then x else Z i) (w.setCell ⟨g, k, none⟩ (.int .i64 x)) := by
  refine ⟨by have := h.lt; go_simp, fun i hi => ?_, fun o => by rw [World.frozen?_setCell]; exact h.f o⟩
  have e := h.c i hi
  by_cases hik : i = k
  · subst hik
    rw [World.cell?_setCell_same' _ _ _ (by rw [e]; rfl), if_pos rfl]
  · rw [World.cell?_setCell_other _ _ _ _ (by intro e; have e2 := congrArg Addr.off e; simp only at e2; omega), e, if_neg hik]
theorem InR.new (w : World) (n : Nat) : InR w.heap.size n (fun _ => 0) (w.alloc (.cells (madeCells #[.int .i64 0] n) 3)) := by
  have hh : (w.alloc (.cells (madeCells #[.int .i64 0] n) 3)).heap[w.heap.size]? = some (.cells (madeCells #[.int .i64 0] n) 3 (0, 0)) := World.alloc_heap_new w _
  refine ⟨by simp, fun i hi => ?_, fun o => ?_⟩
  · simp only [World.cell?, hh]
    simp [madeCells, hi, Nat.mod_one]
  · simp only [World.frozen?, hh]
    simp
theorem InR.ints {g n : Nat} {Z : Nat → Int} {w : World} (h : InR g n Z w) (hn : n ≤ 1000) : IntsIn (some ⟨g, 0, none⟩) n Z w.heap.size w :=
  ⟨by omega, fun i hi => ⟨_, rfl, h.lt, by rw [Addr.add_lit, Nat.zero_add]; exact h.c i hi⟩⟩
theorem SpR.other {g n G o : Nat} {S : Nat → Int × Int} {w : World} {u : Value} (h : SpR g n S w) (hne : g ≠ G) : SpR g n S (w.setCell ⟨G, o, none⟩ u) :=
  ⟨by have := h.lt; go_simp, fun i hi => cell_ne (h.c0 i hi) hne, fun i hi => cell_ne (h.c1 i hi) hne, fun o => by rw [World.frozen?_setCell]; exact h.f o⟩
theorem SpR.sps {g n : Nat} {S : Nat → Int × Int} {w : World} (h : SpR g n S w) (hn : n ≤ 1000) : SpsIn (some ⟨g, 0, none⟩) n S w.heap.size w :=
  ⟨by omega, fun i hi => ⟨_, rfl, h.lt, by rw [Addr.add_lit, Nat.zero_add]; exact h.c0 i hi, by rw [Addr.add_lit, Nat.zero_add]; exact h.c1 i hi⟩⟩
/-- a box of two numbers -/
structure Bt (b : Nat) (x y : Int) (w : World) : Prop where
  c0 : w.cell? ⟨b, 0, none⟩ = some (.int .i64 x)
  c1 : w.cell? ⟨b, 1, none⟩ = some (.int .i64 y)
  f0 : w.frozen? ⟨b, 0, none⟩ = false
  f1 : w.frozen? ⟨b, 1, none⟩ = false
theorem Bt.lt {b : Nat} {x y : Int} {w : World} (h : Bt b x y w) : b < w.heap.size := World.block_lt_of_cell? _ _ h.c0
theorem Bt.up {b : Nat} {x y : Int} {w w' : World} (h : Bt b x y w) (hb : Below w.heap.size w w') : Bt b x y w' :=
  ⟨cell_up hb h.lt h.c0, cell_up hb h.lt h.c1, low_frozen hb h.lt h.f0, low_frozen hb h.lt h.f1⟩
theorem Bt.new (w : World) (t : TypeId) (x y : Int) : Bt w.heap.size x y (w.alloc (.cells #[.int .i64 x, .int .i64 y] t)) :=
  ⟨by go_simp, by go_simp, by unfold World.frozen?; rw [World.alloc_heap_new]; simp, by unfold World.frozen?; rw [World.alloc_heap_new]; simp⟩
theorem Bt.store {b : Nat} {x y : Int} {w : World} (h : Bt b x y w) (u v : Int) : Bt b u v ((w.setCell ⟨b, 0, none⟩ (.int .i64 u)).setCell ⟨b, 1, none⟩ (.int .i64 v)) := by
  obtain ⟨h0, h1, h2, h3⟩ := h
  exact ⟨by go_simp, by go_simp, by go_simp, by go_simp⟩
/-- a box that was laid ahead of a call, behind it -/
theorem bt_a {W w1 : World} {t : TypeId} {x y : Int} (hb : Below (W.alloc (.cells #[.int .i64 x, .int .i64 y] t)).heap.size (W.alloc (.cells #[.int .i64 x, .int .i64 y] t)) w1) :
    W.heap.size < w1.heap.size ∧ w1.cell? ⟨W.heap.size, 0, none⟩ = some (.int .i64 x) ∧ w1.cell? ⟨W.heap.size, 1, none⟩ = some (.int .i64 y) ∧ w1.frozen? ⟨W.heap.size, 0, none⟩ = false ∧ w1.frozen? ⟨W.heap.size, 1, none⟩ = false := by
  have h := (Bt.new W t x y).up hb
  exact ⟨h.lt, h.c0, h.c1, h.f0, h.f1⟩
theorem bt_d {W w1 : World} {t : TypeId} {x y : Int} (hb : Below (W.alloc (.cells #[.int .i64 x, .int .i64 y] t)).drew.heap.size (W.alloc (.cells #[.int .i64 x, .int .i64 y] t)).drew w1) :
    W.heap.size < w1.heap.size ∧ w1.cell? ⟨W.heap.size, 0, none⟩ = some (.int .i64 x) ∧ w1.cell? ⟨W.heap.size, 1, none⟩ = some (.int .i64 y) ∧ w1.frozen? ⟨W.heap.size, 0, none⟩ = false ∧ w1.frozen? ⟨W.heap.size, 1, none⟩ = false := by
  have h1 : Bt W.heap.size x y (W.alloc (.cells #[.int .i64 x, .int .i64 y] t)).drew := (Bt.new W t x y).up (Below.refl _ _).drew
  have h := h1.up hb
  exact ⟨h.lt, h.c0, h.c1, h.f0, h.f1⟩
abbrev Sp (s : Int × Int) : Value := .agg #[.int .i64 s.1, .int .i64 s.2]
theorem bt_na {W w1 : World} {t : TypeId} {x y : Int} (hb : Below (W.alloc (.cells #[.int .i64 x, .int .i64 y] t)).heap.size (W.alloc (.cells #[.int .i64 x, .int .i64 y] t)) w1) : Bt W.heap.size x y w1 := (Bt.new W t x y).up hb
theorem bt_nd {W w1 : World} {t : TypeId} {x y : Int} (hb : Below (W.alloc (.cells #[.int .i64 x, .int .i64 y] t)).drew.heap.size (W.alloc (.cells #[.int .i64 x, .int .i64 y] t)).drew w1) : Bt W.heap.size x y w1 := ((Bt.new W t x y).up (Below.refl _ _).drew).up hb
theorem alloc_other {W : World} {A A2 : Obj} {b o : Nat} {v : Value} (h : (W.alloc A).cell? ⟨b, o, none⟩ = some v) (hl : b < W.heap.size) : (W.alloc A2).cell? ⟨b, o, none⟩ = some v :=
  cell_up (box1 W A2) hl (((box1 W A).cell (p := ⟨b, o, none⟩) hl).symm.trans h)
theorem below_other {B : Nat} {w W : World} {A A2 : Obj} (h : Below B w (W.alloc A)) (hB : B ≤ W.heap.size) (hs : w.heap.size ≤ W.heap.size) : Below B w (W.alloc A2) :=
  { os := h.os, tape := h.tape, output := h.output, size := by simp only [World.size_alloc]; omega, block := fun k hk => by
      rw [(box1 W A2).block k (by omega), ← (box1 W A).block k (by omega)]; exact h.block k hk }
/-- pairs, flat -/
def flatM (l : List (Int × Int)) : List Value := l.flatMap fun s => [.int .i64 s.1, .int .i64 s.2]
theorem flatM_snoc (l : List (Int × Int)) (s : Int × Int) : flatM (l ++ [s]) = flatM l ++ [.int .i64 s.1, .int .i64 s.2] := by simp [flatM]
theorem flatM_at : ∀ (l : List (Int × Int)) (i : Nat) (s : Int × Int), l[i]? = some s → (flatM l)[i * 2]? = some (.int .i64 s.1) ∧ (flatM l)[i * 2 + 1]? = some (.int .i64 s.2)
  | [], i, s, h => by simp at h
  | q :: l, 0, s, h => by simp at h; subst h; exact ⟨rfl, rfl⟩
  | q :: l, i + 1, s, h => by
    have := flatM_at l i s (by simpa using h)
    have e : flatM (q :: l) = .int .i64 q.1 :: .int .i64 q.2 :: flatM l := rfl
    rw [e, show (i + 1) * 2 = i * 2 + 1 + 1 by omega]
    exact this
theorem new2 (W : World) (t : TypeId) (x y : Int) : ∀ j u, ([.int .i64 x, .int .i64 y] : List Value)[j]? = some u → (W.alloc (.cells #[.int .i64 x, .int .i64 y] t)).cell? ((⟨W.heap.size, 0, none⟩ : Addr).add j) = some u := by
  intro j u hj
  rw [Addr.add_lit, Nat.zero_add]
  match j with
  | 0 => cases hj; go_simp
  | 1 => cases hj; go_simp
  | j + 2 => simp at hj
/-- a row of pairs of one's own -/
structure RowM (w : World) (t : TypeId) (F : Nat → Int × Int) (k : Nat) (v : Value) (wr : World) : Prop where
  below : Below w.heap.size w wr
  own : wr.ownsRow w.heap.size t 2 v k (flatM ((List.range k).map F))
theorem RowM.app {w wr W w1 : World} {t : TypeId} {F : Nat → Int × Int} {k : Nat} {v v' : Value} (h : RowM w t F k v wr) (hb : Below wr.heap.size wr W) (hg : W.grownBy w1 v.ownBlock)
    (h' : w1.ownsRow w.heap.size t 2 v' (k + 1) (flatM ((List.range k).map F) ++ [.int .i64 (F k).1, .int .i64 (F k).2])) : RowM w t F (k + 1) v' w1 := by
  have s0 := h.below.size
  have s1 := hb.size
  refine ⟨(h.below.trans (hb.mono s0)).grown hg (by omega) (fun r e => (own_block h.own e).1), ?_⟩
  rw [List.range_succ, List.map_append, List.map_cons, List.map_nil, flatM_snoc]
  exact h'
theorem RowM.spr {w wr : World} {F : Nat → Int × Int} {k : Nat} {v : Value} (h : RowM w 31 F k v wr) (hk : 1 ≤ k) : ∃ g cap, v = .slice (some ⟨g, 0, none⟩) k cap ∧ w.heap.size ≤ g ∧ SpR g k F wr := by
  obtain ⟨h0, hx | ⟨g, cap, cur, e1, e2, e3, e4⟩⟩ := id h.own
  · exact absurd hx.2 (by omega)
  · subst e1
    refine ⟨g, cap, rfl, e2, (Array.getElem?_eq_some_iff.1 e3).1, fun i hi => ?_, fun i hi => ?_, fun o => by simp [World.frozen?, e3]⟩
    · have h1 := h.own.cells (g := g) rfl _ _ (flatM_at ((List.range k).map F) i (F i) (by simp [hi])).1
      rwa [Addr.add_lit, Nat.zero_add] at h1
    · have h1 := h.own.cells (g := g) rfl _ _ (flatM_at ((List.range k).map F) i (F i) (by simp [hi])).2
      rwa [Addr.add_lit, Nat.zero_add] at h1
theorem least_nat {P : Nat → Prop} (h : ∃ j, P j) : ∃ j, P j ∧ ∀ i, i < j → ¬ P i := by
  obtain ⟨j, hj⟩ := h
  induction j using Nat.strongRecOn with
  | ind j ih =>
    by_cases hx : ∃ i, i < j ∧ P i
    · obtain ⟨i, hi, hp⟩ := hx
      exact ih i hi hp
    · exact ⟨j, hj, fun i hi hp => hx ⟨i, hi, hp⟩⟩
theorem RowM.from_ {w w1 w2 : World} {t : TypeId} {F : Nat → Int × Int} {k : Nat} {v : Value} (hb : Below w.heap.size w w1) (h : RowM w1 t F k v w2) : RowM w t F k v w2 :=
  ⟨hb.trans (h.below.mono hb.size), own_mono h.own hb.size⟩
/-- a row of pairs of one's own, by its list -/
structure RowP (w : World) (t : TypeId) (L : List (Int × Int)) (v : Value) (wr : World) : Prop where
  below : Below w.heap.size w wr
  own : wr.ownsRow w.heap.size t 2 v L.length (flatM L)
theorem RowP.app {w wr W w1 : World} {t : TypeId} {L : List (Int × Int)} {v v' : Value} {x y : Int} (h : RowP w t L v wr) (hb : Below wr.heap.size wr W) (hg : W.grownBy w1 v.ownBlock)
    (h' : w1.ownsRow w.heap.size t 2 v' (L.length + 1) (flatM L ++ [.int .i64 x, .int .i64 y])) : RowP w t (L ++ [(x, y)]) v' w1 := by
  have s0 := h.below.size
  have s1 := hb.size
  refine ⟨(h.below.trans (hb.mono s0)).grown hg (by omega) (fun r e => (own_block h.own e).1), ?_⟩
  rw [flatM_snoc, List.length_append, List.length_singleton]
  exact h'
theorem RowP.up {w wr W : World} {t : TypeId} {L : List (Int × Int)} {v : Value} (h : RowP w t L v wr) (hb : Below wr.heap.size wr W) : RowP w t L v W :=
  ⟨nextB h.below hb, own_keep h.own hb⟩
theorem own_SpR {w : World} {B g : Nat} {L : List (Int × Int)} {cap : Nat} (h : w.ownsRow B 31 2 (.slice (some ⟨g, 0, none⟩) L.length cap) L.length (flatM L)) : SpR g L.length (fun i => L.getD i (0, 0)) w := by
  have hc := h.cells (g := g) rfl
  have hg : ∀ i, i < L.length → L[i]? = some (L.getD i (0, 0)) := fun i hi => by simp [List.getD, hi]
  obtain ⟨h0, hx | ⟨g', cap', cur, e1, e2, e3, e4⟩⟩ := h
  · exact absurd hx.1 (by simp)
  · cases e1
    refine ⟨(Array.getElem?_eq_some_iff.1 e3).1, fun i hi => ?_, fun i hi => ?_, fun o => by simp [World.frozen?, e3]⟩
    · have h1 := hc _ _ (flatM_at L i _ (hg i hi)).1
      rwa [Addr.add_lit, Nat.zero_add] at h1
    · have h1 := hc _ _ (flatM_at L i _ (hg i hi)).2
      rwa [Addr.add_lit, Nat.zero_add] at h1
theorem step_append_own {ops : Array Oper} {o : Oper} {a : Act} {w : World} {K : Act → World → Prop} {Q : Exit → Act → World → Prop} {E : Prop} (hgd : o.guard = none) (s x : Operand) (t : TypeId)
    (ho : o.op = .call { callee := .builtin .append, args := #[s, x], argTypes := #[t, t] })
    (base : Nat) (e : TypeId) (i : TypeInfo) (z : Value) (size bytes : Nat) (ht : Try.prog.underlying t = some (.slice e)) (hi : Try.prog.info? e = some i) (hz : i.zero = some z)
    (hsize : i.size = size) (hby : i.bytes = bytes) (hzs : z.cells.size = size) (hsz : 0 < size)
    (v : Value) (n : Nat) (xs : List Value) (hs : a.eval s = v) (hown : w.ownsRow base e size v n xs)
    (ad : Addr) (m c : Nat) (news : List Value) (hx : a.eval x = .slice (some ad) m c) (hl : news.length = m * size) (hnews : ∀ j u, news[j]? = some u → w.cell? (ad.add j) = some u) (h1 : ∀ u ∈ news, u.oneCell' = true)
    (h63 : n + m ≤ maxLen) (hbytes : (n + m) * bytes ≤ 140737488355328) (hbase : base ≤ w.heap.size)
    (hK : ∀ v' w', w'.ownsRow base e size v' (n + m) (xs ++ news) → w.grownBy w' v.ownBlock → K (a.put o.dst v') w') :
    if Region.wanted o (yielded ops a.tmps) = true then Oper.wp Try.prog o a w K Q else E := by
  have hw : Region.wanted o (yielded ops a.tmps) = true := by simp [Region.wanted, hgd]
  rw [if_pos hw]
  obtain ⟨v', w', hrun, r1, r2, _⟩ := run_append_own (P := Try.prog) w base t o.type e i z size bytes ht hi hz hsize hby hzs hsz v n xs hown ad m c news hl hnews h1 h63 hbytes hbase
  unfold Oper.wp
  simp [execOp, ho, resolve, invoke, builtin, hs, hx, hrun, Result.andThen]
  exact hK v' w' r1 r2
/-- append to a slice of one's own, and where the new one lies -/
theorem step_append_at {ops : Array Oper} {o : Oper} {a : Act} {w : World} {K : Act → World → Prop} {Q : Exit → Act → World → Prop} {E : Prop} (hgd : o.guard = none) (s x : Operand) (t : TypeId)
    (ho : o.op = .call { callee := .builtin .append, args := #[s, x], argTypes := #[t, t] })
    (base : Nat) (e : TypeId) (i : TypeInfo) (z : Value) (size bytes : Nat) (ht : Try.prog.underlying t = some (.slice e)) (hi : Try.prog.info? e = some i) (hz : i.zero = some z)
    (hsize : i.size = size) (hby : i.bytes = bytes) (hzs : z.cells.size = size) (hsz : 0 < size)
    (v : Value) (n : Nat) (xs : List Value) (hs : a.eval s = v) (hown : w.ownsRow base e size v n xs)
    (ad : Addr) (m c : Nat) (news : List Value) (hx : a.eval x = .slice (some ad) m c) (hl : news.length = m * size) (hnews : ∀ j u, news[j]? = some u → w.cell? (ad.add j) = some u) (h1 : ∀ u ∈ news, u.oneCell' = true)
    (h63 : n + m ≤ maxLen) (hbytes : (n + m) * bytes ≤ 140737488355328) (hbase : base ≤ w.heap.size)
    (hK : ∀ v' w', w'.ownsRow base e size v' (n + m) (xs ++ news) → w.grownBy w' v.ownBlock → (v'.ownBlock = v.ownBlock ∨ v'.ownBlock = some w.heap.size) → K (a.put o.dst v') w') :
    if Region.wanted o (yielded ops a.tmps) = true then Oper.wp Try.prog o a w K Q else E := by
  have hw : Region.wanted o (yielded ops a.tmps) = true := by simp [Region.wanted, hgd]
  rw [if_pos hw]
  obtain ⟨v', w', hrun, r1, r2, _, r3⟩ := run_append_own_at (P := Try.prog) (w := w) base t o.type e i z size bytes ht hi hz hsize hby hzs hsz v n xs hown ad m c news hl hnews h1 h63 hbytes hbase
  unfold Oper.wp
  simp [execOp, ho, resolve, invoke, builtin, hs, hx, hrun, Result.andThen]
  exact hK v' w' r1 r2 r3
def Parted (u v : Value) : Prop := ∀ g, u.ownBlock = some g → v.ownBlock ≠ some g
theorem Parted.symm {u v : Value} (h : Parted u v) : Parted v u := fun g hg he => h g he hg
/-- what a cell holds -/
def cellAt (w : World) (b o : Nat) : Value := (w.cell? ⟨b, o, none⟩).getD undef
theorem cellAt_ok {w : World} {b o : Nat} {v : Value} (h : w.cell? ⟨b, o, none⟩ = some v) : w.cell? ⟨b, o, none⟩ = some (cellAt w b o) := by unfold cellAt; rw [h]; rfl
theorem keepA {w : World} {p : Addr} {G o : Nat} {u v : Value} (h : w.cell? p = some v) (hp : p.block ≠ G) : (w.setCell ⟨G, o, none⟩ u).cell? p = some v := by
  rw [World.cell?_setCell_other _ _ _ _ (fun e => hp (by rw [← e]))]
  exact h
theorem own_ne {w : World} {B n size : Nat} {e : TypeId} {v : Value} {xs : List Value} (h : w.ownsRow B e size v n xs) {b : Nat} (hb : b < B) : some b ≠ v.ownBlock := by
  intro e2
  have := own_block h e2.symm
  omega
theorem own_out {w : World} {B n size : Nat} {e : TypeId} {v : Value} {xs : List Value} (h : w.ownsRow B e size v n xs) {b : Nat} (hb : w.heap.size ≤ b) : some b ≠ v.ownBlock := by
  intro e2
  have := own_block h e2.symm
  omega
theorem cell_row {W w1 : World} {row : Option Nat} {b o : Nat} {v : Value} (hg : W.grownBy w1 row) (hl : b < W.heap.size) (hr : some b ≠ row) (h : W.cell? ⟨b, o, none⟩ = some v) : w1.cell? ⟨b, o, none⟩ = some v := (World.cell?_of_block (a := ⟨b, o, none⟩) (hg.block b hl hr)).trans h
theorem frozen_row {W w1 : World} {row : Option Nat} {b o : Nat} {v : Bool} (hg : W.grownBy w1 row) (hl : b < W.heap.size) (hr : some b ≠ row) (h : W.frozen? ⟨b, o, none⟩ = v) : w1.frozen? ⟨b, o, none⟩ = v := (World.frozen?_of_block (a := ⟨b, o, none⟩) (hg.block b hl hr)).trans h
theorem own_set {w : World} {B n size : Nat} {e : TypeId} {v : Value} {xs : List Value} (h : w.ownsRow B e size v n xs) {b o : Nat} {u : Value} (hb : b < B) : (w.setCell ⟨b, o, none⟩ u).ownsRow B e size v n xs :=
  own_same h fun g hg => Below.heap_setCell _ _ _ g (fun e2 => by have := own_block h hg; simp at e2; omega)
theorem RowZ.from_ {w w1 w2 : World} {L : List Int} {v : Value} (hb : Below w.heap.size w w1) (h : RowZ w1 L v w2) : RowZ w L v w2 := by
  obtain ⟨h1, hx0, hx | ⟨gb, cap, cur, rfl, hbase, r0, r1, r2, r3, r4⟩⟩ := h
  · exact ⟨hb.trans (h1.mono hb.size), hx0, .inl hx⟩
  · exact ⟨hb.trans (h1.mono hb.size), hx0, .inr ⟨gb, cap, cur, rfl, Nat.le_trans hb.size hbase, r0, r1, r2, r3, r4⟩⟩
/-- a block's cells read as a list -/
theorem ints_of {l : List Int} {b : Nat} {w : World} (hb : b < w.heap.size) (hl : l.length ≤ 1000) (h : ∀ i z, l[i]? = some z → w.cell? ⟨b, i, none⟩ = some (.int .i64 z)) : IntsIn (some ⟨b, 0, none⟩) l.length (asZ l) w.heap.size w :=
  ⟨by omega, fun i hi => ⟨_, rfl, hb, by rw [Addr.add_lit, Nat.zero_add]; exact h i _ (by simp [asZ, hi])⟩⟩
theorem ints1 {w : World} {b : Nat} {x : Int} (hb : b < w.heap.size) (h : w.cell? ⟨b, 0, none⟩ = some (.int .i64 x)) : IntsIn (some ⟨b, 0, none⟩) 1 (asZ [x]) w.heap.size w :=
  ints_of (l := [x]) hb (by simp) (fun i u hi => by
    match i, hi with
    | 0, hi => cases hi; exact h
    | i + 1, hi => simp at hi)
theorem lit_ints (w : World) (l : List Int) (hl : l.length ≤ 1000) : IntsIn (some ⟨w.heap.size, 0, none⟩) l.length (asZ l) (w.alloc (.cells (intsZ l).toArray 3)).heap.size (w.alloc (.cells (intsZ l).toArray 3)) :=
  ints_of (by simp) hl fun i z h => by
    have : (intsZ l)[i]? = some (.int .i64 z) := by simp [intsZ, h]
    have hh := World.alloc_heap_new w (.cells (intsZ l).toArray 3)
    simp only [World.cell?, Option.isSome_none, Bool.false_eq_true, if_false]
    rw [hh]
    simpa using this
section
variable {F : Fence} {n : Nat} {P : Program} {α : Type}
/-- the iterator's contract: it yields L's elements one after the other -/
def Yields (F : Fence) (n : Nat) (P : Program) (g : Nat) (lb : Array Value) (encs : α → Array Value) (Kp : World → World → Prop) (L : List α) (w : World) : Prop :=
  ∀ (l : Nat) (J : Nat → World → Prop) (W : World), Below w.heap.size w W → AbidesFrom W.heap.size J →
    (∀ k x W1, L[k]? = some x → J k W1 → YieldAt F (n - 1) P l (encs x) W1 fun e W' => e = .returned (.bool true) ∧ J (k + 1) W' ∧ Kp W1 W') →
    J 0 W → CallsIn F n P g (#[.func (.yield l) #[] #[]] ++ lb) W fun e W' => (∃ v, e = .returned v) ∧ J L.length W'
/-- a round's end: it goes on, or nothing -/
def goesOn (R : World → Prop) : Exit → Act → World → Prop
  | .normal, _, W => R W
  | _, _, _ => False
theorem rangeList {g : Operand} {ps : Array Tmp} {assign body : Code} {Q : Exit → Act → World → Prop} {a : Act} {w : World}
    (hro : F.round = none) (hn : 1 ≤ n) {gf : Nat} {lb : Array Value} (hg : a.eval g = .func (.func gf) #[] lb) (hF : F.fn gf) (eg : ∀ args w, (callFunc gf args).run P w = .ok (.enter gf args) w)
    {encs : α → Array Value} {Kp : World → World → Prop} {L : List α} {w0 : World} (hseq : Yields F (n - 1) P gf lb encs Kp L w0) (hb0 : Below w0.heap.size w0 w) (hps : ∀ x, (encs x).size = ps.size)
    (hKt : ∀ {A B C : World}, Kp A B → Kp B C → Kp A C) (hKb : ∀ (W : World) (l : Nat) (o o' : Obj), w.heap.size ≤ l → W.heap[l]? = some o → o.isCells = false → o.isWalk = false → Kp W (W.putObj l o'))
    (I : Nat → World → Prop) (hI : OwnFrom w.heap.size I) (h0 : I 0 w) (Ax : α → Act → World → Prop) (hAx : ∀ x a', OwnFrom w.heap.size (fun (_ : Unit) W => Ax x a' W))
    (hassign : ∀ (l k : Nat) (x : α) (W : World) (K : Act → World → Prop), L[k]? = some x → I k W → (∀ a' W', KeepsFrom w.heap.size W W' → Kp W W' → I k W' → Ax x a' W' → K a' W') →
      assign.wpIn (F.inRound l) (n - 1 - 1) P (Exit.then K (fun _ _ _ => False)) { tmps := (ps.zip (encs x)).foldl (fun t (p, v) => t.setIfInBounds p v) a.tmps, defers := [] } W)
    (hbody : ∀ (l k : Nat) (x : α) (a' : Act) (W : World), L[k]? = some x → I k W → Ax x a' W → body.wpIn (F.inRound l) (n - 1 - 1) P (goesOn fun W' => KeepsFrom w.heap.size W W' ∧ Kp W W' ∧ I (k + 1) W') a' W)
    (hdone : ∀ (D : Nat) (W : World), w.heap.size ≤ D → I L.length W → W.heap[D]? = some (.deferred (some [])) → Q .normal { a with defers := { target := .collected D, args := #[] } :: a.defers } W) :
    (Code.rangeFunc g ps assign body).wpIn F n P Q a w := by
  refine wpIn_rangeFunc fun fn hfn => ?_
  rw [hro]
  let rec' : LoopState → Loop := fun st => { state := st, pending := none, fn, tmps := a.tmps, params := ps, assign, body, defers := w.heap.size }
  have kept : ∀ {A B : World} {c : Nat} {o : Obj}, KeepsFrom w.heap.size A B → w.heap.size ≤ c → A.heap[c]? = some o → o.isCells = false → B.heap[c]? = some o := fun hk hc ho hi => hk.same _ _ hc ho hi
  let books : World → Prop := fun W => W.heap[w.heap.size + 1]? = some (.loop (rec' .ready)) ∧ W.heap[w.heap.size]? = some (.deferred (some []))
  obtain ⟨W1, hW1⟩ : ∃ W1, W1 = (w.alloc (.deferred (some []))).alloc (.loop (rec' .ready)) := ⟨_, rfl⟩
  have hb1 : Below w.heap.size w W1 := by rw [hW1]; exact ((Below.refl _ _).alloc (Nat.le_refl _) _).alloc (by simp only [World.size_alloc]; omega) _
  have hs1 : W1.heap.size = w.heap.size + 1 + 1 := by rw [hW1]; simp
  have hk1 : books W1 := by
    constructor
    · rw [hW1]; have := World.alloc_heap_new (w.alloc (.deferred (some []))) (.loop (rec' .ready)); rwa [World.size_alloc] at this
    · rw [hW1, Below.heap_alloc _ _ _ (by simp)]; exact World.alloc_heap_new w _
  have hi1 : I 0 W1 := by rw [hW1]; exact hI.alloc _ (hI.alloc _ h0)
  refine ⟨w.heap.size + 1, [{ target := .collected w.heap.size, args := #[] }], W1, { target := .fn (.func gf) lb, args := #[.func (.yield (w.heap.size + 1)) #[] #[]] }, W1, gf, #[.func (.yield (w.heap.size + 1)) #[] #[]] ++ lb, W1, ?_, ?_, ?_, ?_, fun _ => hn, ?_⟩
  · rw [hW1]; exact run_enterLoop_outer _ _ _ _ _
  · simp only [resolve, hg]
    simp [go_sem]
  · intro f' hf'
    simp [Target.leads] at hf'
    subst hf'; exact hF
  · simp [invoke, go_sem, eg]
  have lt_of : ∀ {A : World} {c : Nat} {o : Obj}, A.heap[c]? = some o → c < A.heap.size := fun h => (Array.getElem?_eq_some_iff.1 h).1
  refine (hseq (w.heap.size + 1) (fun k W => I k W ∧ books W) W1 (hb0.trans (hb1.mono hb0.size)) ?_ ?_ ⟨hi1, hk1⟩).mono ?_
  · intro k A B row hA hgr hr
    refine ⟨hI k A B row hA.1 hgr fun r e => ?_, ?_, ?_⟩
    · obtain ⟨h1, o, h2, h3⟩ := hr r e
      exact ⟨by omega, o, h2, Obj.not_cells_of_walk h3⟩
    · rw [hgr.block _ (lt_of hA.2.1) (fun e => by have := (hr _ e.symm).1; omega)]; exact hA.2.1
    · rw [hgr.block _ (lt_of hA.2.2) (fun e => by have := (hr _ e.symm).1; omega)]; exact hA.2.2
  · intro k x W hx hW
    obtain ⟨hi, hl, hd⟩ := hW
    refine ⟨fn, _, assign, body, run_yield (P := P) (args := encs x) hl (hps x), roundIn_of_wpIn hfn (hassign _ k x W _ hx hi fun a' Wa hka hkp hia hax => ?_)⟩
    have hla := kept hka (by omega) hl rfl
    have hda := kept hka (Nat.le_refl _) hd rfl
    refine ⟨_, run_beginRound hla rfl, ?_⟩
    have hlb : (Wa.putObj (w.heap.size + 1) (.loop { rec' .ready with state := .busy })).heap[w.heap.size + 1]? = some (.loop { rec' .ready with state := .busy }) := World.putObj_heap_same (lt_of hla)
    have hdb : (Wa.putObj (w.heap.size + 1) (.loop { rec' .ready with state := .busy })).heap[w.heap.size]? = some (.deferred (some [])) := (World.putObj_heap_other (by omega)).trans hda
    refine wpIn_mono (hbody _ k x a' _ hx (hI.putObj _ hia (by omega) hla rfl) ((hAx x a').putObj (s := ()) _ hax (by omega) hla rfl)) ?_
    intro e a3 W3 hp
    cases e
    case normal =>
      obtain ⟨hk3, hkp3, hi3⟩ := hp
      have hl3 := kept hk3 (by omega) hlb rfl
      have hd3 := kept hk3 (Nat.le_refl _) hdb rfl
      refine ⟨_, _, run_endRound none hl3, rfl, ⟨hI.putObj _ hi3 (by omega) hl3 rfl, ?_, ?_⟩, ?_⟩
      · exact World.putObj_heap_same (lt_of hl3)
      · exact (World.putObj_heap_other (by omega)).trans hd3
      · exact hKt (hKt (hKt hkp (hKb _ _ _ _ (by omega) hla rfl rfl)) hkp3) (hKb _ _ _ _ (by omega) hl3 rfl rfl)
    all_goals exact hp.elim
  · intro e W2 hW
    obtain ⟨⟨v, rfl⟩, hi, hl, hd⟩ := hW
    exact ⟨none, _, run_endLoop hl (by simp [rec']), hdone _ _ (Nat.le_refl _) (hI.putObj _ hi (by omega) hl rfl) ((World.putObj_heap_other (by omega)).trans hd)⟩
end
theorem grown_of_below {W w1 : World} (h : Below W.heap.size W w1) : W.grownBy w1 none := ⟨h.os, h.tape, h.output, h.size, fun k hk _ => h.block k hk⟩
theorem abides_below {β : Type} {B : Nat} {J : β → World → Prop} (hJ : AbidesFrom B J) {s : β} {W w1 : World} (h : J s W) (hb : Below W.heap.size W w1) : J s w1 :=
  hJ s W w1 none h (grown_of_below hb) (fun r e => by cases e)
theorem keepsFrom_below {B : Nat} {W W' : World} (hb : Below W.heap.size W W') : KeepsFrom B W W' := ⟨hb.size, fun k o _ h _ => by rw [hb.block k (Array.getElem?_eq_some_iff.1 h).1]; exact h⟩
attribute [local go_sem] Oper.semAt_some
abbrev encI (x : Int) : Array Value := #[.int .i64 x]
/-- the first numbers of a slice -/
def upTo (Z : Nat → Int) (n : Nat) : List Int := (List.range n).map Z
theorem upTo_len (Z : Nat → Int) (n : Nat) : (upTo Z n).length = n := by simp [upTo]
theorem upTo_at {Z : Nat → Int} {n k : Nat} (h : k < n) : (upTo Z n)[k]? = some (Z k) := by simp [upTo, h]
theorem upTo_succ (Z : Nat → Int) (n : Nat) : upTo Z (n + 1) = upTo Z n ++ [Z n] := by simp [upTo, List.range_succ]
section
variable {P : Program} {ops : Array Oper} {Q : Exit → Act → World → Prop} {md : Region.Mode} {T : World → Prop} {L : List Nat}
/-- whatever comes up: T holds behind each operation but the late ones -/
def wpAnyM (P : Program) (md : Region.Mode) (ops : Array Oper) (Q : Exit → Act → World → Prop) (T : World → Prop) (L : List Nat) : Nat → Array Bool → Act → World → Prop
  | 0, listed, a, w => Region.ready md ops listed = [] ∧ Q .normal a w
  | g + 1, listed, a, w => (Region.ready md ops listed = [] → Q .normal a w) ∧ ∀ i ∈ Region.ready md ops listed, wpOp P ops Q i (fun a' w' => (L.contains i = false → T w') ∧ wpAnyM P md ops Q T L g (listed.setIfInBounds i true) a' w') a w
theorem wpAny_ofM : ∀ (g : Nat) (listed : Array Bool) (a : Act) (w : World), wpAnyM P md ops Q T L g listed a w → wpAny P md ops Q g listed a w
  | 0, _, _, _, h => h
  | g + 1, _, _, _, h => ⟨h.1, fun i hi => wpOp_mono (fun a' w' h' => wpAny_ofM g _ a' w' h'.2) (h.2 i hi)⟩
theorem unlisted_not {listed : Array Bool} {i : Nat} (h0 : listed.getD i true = false) (h1 : listed.getD i false = true) : False := by
  rcases Nat.lt_or_ge i listed.size with h | h
  · simp [h] at h0 h1
    rw [h0] at h1
    cases h1
  · simp [Array.getElem?_eq_none h] at h1
/-- what has come up has all come up that it waits for -/
def Closed (md : Region.Mode) (ops : Array Oper) (listed : Array Bool) : Prop := ∀ j i, listed.getD j false = true → Region.waitsFor md ops j i = true → listed.getD i false = true
def waitsT (md : Region.Mode) (ops : Array Oper) : Nat → Nat → Nat → Bool
  | 0, j, i => Region.waitsFor md ops j i
  | f + 1, j, i => Region.waitsFor md ops j i || (List.range j).any fun k => Region.waitsFor md ops j k && waitsT md ops f k i
theorem ready_waits {listed : Array Bool} {j i : Nat} (hr : j ∈ Region.ready md ops listed) (h : Region.waitsFor md ops j i = true) : listed.getD i false = true := by
  obtain ⟨_, oj, hoj, hall⟩ := mem_ready.1 hr
  obtain ⟨o, ho, e, he, hb, hon⟩ := Region.waitsFor_spec h
  rw [hoj] at ho
  cases ho
  rw [← hon]
  exact hall e he hb
theorem closed_T {listed : Array Bool} (hc : Closed md ops listed) : ∀ (f j i : Nat), listed.getD j false = true → waitsT md ops f j i = true → listed.getD i false = true
  | 0, j, i, hj, h => hc j i hj h
  | f + 1, j, i, hj, h => by
    unfold waitsT at h
    rcases Bool.or_eq_true _ _ ▸ h with h | h
    · exact hc j i hj h
    · obtain ⟨k, _, h2⟩ := List.any_eq_true.1 h
      rw [Bool.and_eq_true] at h2
      exact closed_T hc f k i (hc j k hj h2.1) h2.2
theorem ready_T {listed : Array Bool} (hc : Closed md ops listed) {f j i : Nat} (hr : j ∈ Region.ready md ops listed) (h : waitsT md ops f j i = true) : listed.getD i false = true := by
  cases f with
  | zero => exact ready_waits hr h
  | succ f =>
    unfold waitsT at h
    rcases Bool.or_eq_true _ _ ▸ h with h | h
    · exact ready_waits hr h
    · obtain ⟨k, _, h2⟩ := List.any_eq_true.1 h
      rw [Bool.and_eq_true] at h2
      exact closed_T hc f k i (ready_waits hr h2.1) h2.2
theorem Closed.next {listed : Array Bool} {j : Nat} (hc : Closed md ops listed) (hr : j ∈ Region.ready md ops listed) : Closed md ops (listed.setIfInBounds j true) := fun k i hk hw => by
  by_cases hjk : j = k
  · subst hjk
    exact getD_set_true (ready_waits hr hw)
  · rw [getD_set_ne false hjk] at hk
    exact getD_set_true (hc k i hk hw)
theorem wpAnyM_first {i : Nat} {oi : Oper} {v : Value} (hi : ops[i]? = some oi) (hsel : ∀ (j : Nat) (o : Oper) cs b, ops[j]? = some o → o.op ≠ .select cs b)
    (hQ : ∀ c a w, Q (.panic c) (a.put oi.dst v) w → Q (.panic c) a w) (hL : ∀ m, L.contains m = true → waitsT md ops 12 m i = true) (hiL : L.contains i = false) :
    ∀ (g : Nat) (listed : Array Bool) (a : Act) (w : World), Closed md ops listed →
      (∀ j oj, ops[j]? = some oj → j ≠ i → listed.getD j true = false → (∀ e ∈ oj.after, Region.binds md e = true → e.on ≠ i) → oi.apart ops oj = true) →
      i ∈ Region.ready md ops listed → YieldsIf P ops T oi v a → T w →
      wpAnyM P md ops Q T L g (listed.setIfInBounds i true) (a.put oi.dst v) w → wpAnyM P md ops Q T L (g + 1) listed a w
  | 0, listed, a, w, _, _, hr, hy, hT, H => by
    refine ⟨fun e => absurd hr (by rw [e]; exact List.not_mem_nil), fun j hj => ?_⟩
    by_cases hji : j = i
    · rw [hji]
      exact hy.wpOp hi hT ⟨fun _ => hT, H⟩
    · exact absurd (ready_mono hj hji) (by rw [H.1]; exact List.not_mem_nil)
  | g + 1, listed, a, w, hc, hfree, hr, hy, hT, H => by
    refine ⟨fun e => absurd hr (by rw [e]; exact List.not_mem_nil), fun j hj => ?_⟩
    by_cases hji : j = i
    · rw [hji]
      exact hy.wpOp hi hT ⟨fun _ => hT, H⟩
    · obtain ⟨hjun, oj, hoj, hall⟩ := mem_ready.1 hj
      have hiun := (mem_ready.1 hr).1
      have hno : ∀ e ∈ oj.after, Region.binds md e = true → e.on ≠ i := fun e he hb heq => unlisted_not hiun (by rw [← heq]; exact hall e he hb)
      have hjm : L.contains j = false := by
        cases hx : L.contains j with
        | false => rfl
        | true => exact (unlisted_not hiun (ready_T hc hj (hL j hx))).elim
      have h2 := wpOp_putIf hoj (hfree j oj hoj hji hjun hno) (fun cs b => hsel i oi cs b hi) (fun cs b => hsel j oj cs b hoj) hQ hy (H.2 j (ready_mono hj hji))
      refine wpOp_mono (fun a' w' h3 => ?_) h2
      obtain ⟨y3, t3, k3⟩ := h3
      refine ⟨t3, wpAnyM_first hi hsel hQ hL hiL g (listed.setIfInBounds j true) a' w' (hc.next hj) (fun k ok hk hki hun hn => hfree k ok hk hki ?_ hn) (ready_mono hr (Ne.symm hji)) y3 (t3 hjm) ?_⟩
      · by_cases hjk : j = k
        · rw [← hjk]; exact hjun
        · rwa [getD_set_ne true hjk] at hun
      · rw [Array.setIfInBounds_comm _ _ hji]
        exact k3
/-- the same, from a state that is closed -/
def wpM (P : Program) (md : Region.Mode) (ops : Array Oper) (Q : Exit → Act → World → Prop) (T : World → Prop) (L : List Nat) (g : Nat) (listed : Array Bool) (a : Act) (w : World) : Prop :=
  Closed md ops listed → Region.noSelect ops = true → wpAnyM P md ops Q T L g listed a w
/-- what is asked of an operation that is taken ahead of others -/
def takeB (md : Region.Mode) (ops : Array Oper) (listed : Array Bool) (L : List Nat) (i : Nat) : Bool :=
  Region.free md ops listed i && (Region.ready md ops listed).contains i && (L.all fun m => waitsT md ops 12 m i) && !L.contains i
theorem closed_none (n : Nat) : Closed md ops (Array.replicate n false) := fun j i hj _ => by
  rw [getD_replicate_false] at hj
  cases hj
theorem at_drop {l r : List Oper} {o : Oper} {i : Nat} (h : l.drop i = o :: r) : l.toArray[i]? = some o := by
  rw [List.getElem?_toArray, ← Nat.add_zero i, ← List.getElem?_drop, h]
  rfl
theorem M_take {l r : List Oper} {oi : Oper} {v : Value} {g : Nat} {listed : Array Bool} {a : Act} {w : World} (i : Nat) (hi : l.drop i = oi :: r) (hB : takeB md l.toArray listed L i = true)
    (hT : T w) (hQ : ∀ c a w, Q (.panic c) (a.put oi.dst v) w → Q (.panic c) a w) (hy : YieldsIf P l.toArray T oi v a)
    (h : wpM P md l.toArray Q T L g (listed.setIfInBounds i true) (a.put oi.dst v) w) : wpM P md l.toArray Q T L (g + 1) listed a w := fun hc hs => by
  unfold takeB at hB
  simp only [Bool.and_eq_true] at hB
  obtain ⟨⟨⟨h2, h3⟩, h5⟩, h6⟩ := hB
  have hr : i ∈ Region.ready md l.toArray listed := by simpa using h3
  exact wpAnyM_first (at_drop hi) (Region.noSelect_spec hs) hQ (fun m hm => List.all_eq_true.1 h5 m (by simpa using hm)) (by simpa using h6) g listed a w hc (Region.free_spec (at_drop hi) h2) hr hy hT (h (hc.next hr) hs)
theorem M_step {l r : List Oper} {o : Oper} {g : Nat} {listed : Array Bool} {a : Act} {w : World} (i : Nat) (hi : l.drop i = o :: r) (hr : Region.ready md l.toArray listed = [i])
    (h : ∀ K' : Act → World → Prop, Hid (∀ a w, (L.contains i = false → T w) → wpM P md l.toArray Q T L g (listed.setIfInBounds i true) a w → K' a w) → if Region.wanted o (yielded l.toArray a.tmps) = true then Oper.wp P o a w K' Q else K' (a.put o.dst undef) w) :
    wpM P md l.toArray Q T L (g + 1) listed a w := fun hc hs =>
  ⟨fun e => (by rw [hr] at e; cases e), fun j hj => by
    have hj' := hj
    rw [hr] at hj
    obtain rfl : j = i := by simpa using hj
    exact wpOp_step (at_drop hi) fun K' hK => h K' (Lib.hid fun a w hT hW => hK a w ⟨hT, hW (hc.next hj') hs⟩)⟩
theorem M_done {listed : Array Bool} {a : Act} {w : World} (hr : Region.ready md ops listed = []) (h : Q .normal a w) : ∀ g, wpM P md ops Q T L g listed a w
  | 0 => fun _ _ => ⟨hr, h⟩
  | _ + 1 => fun _ _ => ⟨fun _ => h, by rw [hr]; exact fun i hi => absurd hi List.not_mem_nil⟩
theorem wp_region_M {id : Nat} {a : Act} {w : World} (L : List Nat) (T : World → Prop) (hm : P.follows .mixedOrders = true) (hs : Region.noSelect ops = true) (hT : T w.drew)
    (h : T w.drew → wpM P .any ops Q T L ops.size (Array.replicate ops.size false) a w.drew) : (Code.region id ops true).wp P Q a w :=
  wp_region_any hm (wpAny_ofM _ _ _ _ (h hT (closed_none _) hs))
end
end Go.Proofs.Ytpikaohodieeaaa
