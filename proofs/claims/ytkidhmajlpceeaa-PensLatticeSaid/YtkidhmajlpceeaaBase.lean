import Derived.Test.YtkidhmajlpceeaaRows
import Derived.WalkKit
import Derived.WalkSpells
import Derived.WalkLawsBesides
import Derived.Lib.Hide
import Derived.Deep.QuietTactic
import Derived.BigQuiet
import Derived.StillTailTactics
import Derived.ProofKit
import Derived.Shelf.SlSorted.Search
import Derived.Shelf.RegionOpen
import Derived.Deep.RegionHeld3
import Derived.BigRegion
import Derived.RegionTactic
import Derived.OwnWalk
import Derived.Deep.AppendLies
import Derived.OwnWalkIn
import Derived.TacticsInMore
import Derived.LoopNIn
import Derived.LoopIn
import Derived.RangeFuncNested
import Derived.RangeFuncBound
import Derived.RangeFuncCalls
import Derived.RangeFuncLeaves
import Derived.Shelf.Abstract
import Derived.Maps.AppendAt
import Derived.RangeFuncOne
import Derived.Deep.Matrix
import Derived.Carry
namespace Go.Proofs.Ytkidhmajlpceeaa
open Go.RowKit
theorem bcell {W w1 : World} (hb : Below W.heap.size W w1) : (∀ b o, b < W.heap.size → w1.cell? ⟨b, o, none⟩ = W.cell? ⟨b, o, none⟩) ∧ (∀ b o, b < W.heap.size → w1.frozen? ⟨b, o, none⟩ = W.frozen? ⟨b, o, none⟩) :=
  ⟨fun b o h => hb.cell (p := ⟨b, o, none⟩) h, fun b o h => hb.frozen (p := ⟨b, o, none⟩) h⟩
def btw (n a b : Int) : Bool := decide (a ≤ n ∧ n ≤ b)
set_option maxHeartbeats 400000 in
theorem between_any (n a b : Int) (w : World) :
    Calls Try.prog 73 #[.int .i64 n, .int .i64 a, .int .i64 b] w fun e w' => e = .returned (.bool (btw n a b)) ∧ w = w' := by
  by_cases h : a ≤ n
  · have h1 : decide (a ≤ n) = true := by simpa using h
    go_enter Try.func73, Try.ntmps73
    go_wp2
    go_ret
    exact ⟨by simp [btw, h], rfl⟩
  · have h1 : decide (a ≤ n) = false := by simpa using h
    go_enter Try.func73, Try.ntmps73
    go_wp2
    go_ret
    exact ⟨by simp [btw]; omega, rfl⟩
theorem between_t (n a b : Int) (w : World) (h : a ≤ n ∧ n ≤ b) :
    Calls Try.prog 73 #[.int .i64 n, .int .i64 a, .int .i64 b] w fun e w' => e = .returned (.bool true) ∧ w = w' :=
  (between_any n a b w).mono fun _ _ ⟨he, hw⟩ => ⟨by rw [he]; simp [btw, h], hw⟩
theorem between_f (n a b : Int) (w : World) (h : ¬ (a ≤ n ∧ n ≤ b)) :
    Calls Try.prog 73 #[.int .i64 n, .int .i64 a, .int .i64 b] w fun e w' => e = .returned (.bool false) ∧ w = w' :=
  (between_any n a b w).mono fun _ _ ⟨he, hw⟩ => ⟨by rw [he]; simp only [btw, decide_eq_false h], hw⟩
theorem box1 (w : World) (o : Obj) : Below w.heap.size w (w.alloc o) := (Below.refl _ _).alloc (Nat.le_refl _) _
theorem box2 (w : World) (o o2 : Obj) : Below w.heap.size w ((w.alloc o).alloc o2) := (box1 w o).alloc (by simp only [World.size_alloc]; omega) _
theorem box3 (w : World) (o o2 o3 : Obj) : Below w.heap.size w (((w.alloc o).alloc o2).alloc o3) := (box2 w o o2).alloc (by simp only [World.size_alloc]; omega) _
theorem box4 (w : World) (o o2 o3 o4 : Obj) : Below w.heap.size w ((((w.alloc o).alloc o2).alloc o3).alloc o4) := (box3 w o o2 o3).alloc (by simp only [World.size_alloc]; omega) _
theorem set1 {B b : Nat} {a w : World} (h : Below B a w) (hb : B ≤ b) (o : Nat) (u : Value) : Below B a (w.setCell ⟨b, o, none⟩ u) := h.setCell (p := ⟨b, o, none⟩) hb u
theorem cell_up {w1 W : World} {b o : Nat} {v : Value} (hb : Below W.heap.size W w1) (hl : b < W.heap.size) (h : W.cell? ⟨b, o, none⟩ = some v) : w1.cell? ⟨b, o, none⟩ = some v := (hb.cell (p := ⟨b, o, none⟩) hl).trans h
theorem ret_int {k : IntKind} {a b : Int} (h : a = b) : Ending.returned (.int k a) = .returned (.int k b) := by rw [h]
theorem low_cell {B : Nat} {W w1 : World} {b o : Nat} {v : Value} (hb : Below B W w1) (hl : b < B) (h : W.cell? ⟨b, o, none⟩ = some v) : w1.cell? ⟨b, o, none⟩ = some v := (hb.cell (p := ⟨b, o, none⟩) hl).trans h
theorem low_frozen {B : Nat} {W w1 : World} {b o : Nat} {v : Bool} (hb : Below B W w1) (hl : b < B) (h : W.frozen? ⟨b, o, none⟩ = v) : w1.frozen? ⟨b, o, none⟩ = v := (hb.frozen (p := ⟨b, o, none⟩) hl).trans h
theorem still_tail {P : Program} {id : Nat} {Q : Exit → Act → World → Prop} {a : Act} {w : World} {l : List Oper} (n : Nat) (hm : P.follows .mixedOrders = true) (hB : Region.lexTailB .any l.toArray n = true)
    (h : wpStill P l.toArray w.drew (fun a' => wpList P l.toArray Q (l.drop n) a' w.drew) (l.take n) a) : (Code.region id l.toArray true).wp P Q a w := wp_region_still_tail n hm hB h
theorem add_block (a : Addr) (n : Nat) : (a.add n).block = a.block := by unfold Addr.add; split <;> rfl
theorem add_adds (a : Addr) (i j : Nat) : (a.add i).add j = a.add (i + j) := by
  unfold Addr.add
  by_cases hi : i = 0 <;> by_cases hj : j = 0 <;> simp [hi, hj, Nat.add_assoc]
theorem add_at (a : Addr) (m j : Nat) (hj : 0 < j) : (⟨(a.add m).block, (a.add m).off + j, none⟩ : Addr) = a.add (m + j) := by
  rw [← add_adds]
  generalize a.add m = b
  unfold Addr.add
  rw [if_neg (by omega)]
/-- a set of spans reads as it says, below a block -/
def SpsIn (A : Option Addr) (n : Nat) (S : Nat → Int × Int) (B : Nat) (w : World) : Prop :=
  (n : Int) ≤ 9223372036854775807 ∧ ∀ i, i < n → ∃ a : Addr, A = some a ∧ a.block < B ∧ w.cell? (a.add (i * 2)) = some (.int .i64 (S i).1) ∧ w.cell? ⟨(a.add (i * 2)).block, (a.add (i * 2)).off + 1, none⟩ = some (.int .i64 (S i).2)
theorem SpsIn.up {A : Option Addr} {n : Nat} {S : Nat → Int × Int} {B C : Nat} {w w' : World} (h : SpsIn A n S B w) (hb : Below C w w') (hC : B ≤ C) : SpsIn A n S B w' :=
  ⟨h.1, fun i hi => by
    obtain ⟨a, e, hl, h1, h2⟩ := h.2 i hi
    exact ⟨a, e, hl, (hb.cell (by simp only [add_block]; omega)).trans h1, (hb.cell (by simp only [add_block]; omega)).trans h2⟩⟩
theorem SpsIn.more {A : Option Addr} {n : Nat} {S : Nat → Int × Int} {B C : Nat} {w : World} (h : SpsIn A n S B w) (hC : B ≤ C) : SpsIn A n S C w :=
  ⟨h.1, fun i hi => by
    obtain ⟨a, e, hl, h1, h2⟩ := h.2 i hi
    exact ⟨a, e, by omega, h1, h2⟩⟩
theorem len_lt {n : Nat} (h : n ≤ maxLen) : (n : Int) ≤ 9223372036854775807 := by unfold maxLen at h; omega
theorem add_zero (a : Addr) : a.add 0 = a := by unfold Addr.add; rw [if_pos rfl]
theorem add_pos (a : Addr) (j : Nat) (h : 0 < j) : a.add j = ⟨a.block, a.off + j, none⟩ := by unfold Addr.add; rw [if_neg (by omega)]
theorem own_same {w w' : World} {B n size : Nat} {e : TypeId} {v : Value} {xs : List Value} (h : w.ownsRow B e size v n xs) (hb : ∀ g, v.ownBlock = some g → w'.heap[g]? = w.heap[g]?) : w'.ownsRow B e size v n xs := by
  obtain ⟨h0, hx | ⟨g, cap, c2, e1, e2, e3, e4⟩⟩ := h
  · exact ⟨h0, .inl hx⟩
  · exact ⟨h0, .inr ⟨g, cap, c2, e1, e2, (hb g (by rw [e1]; rfl)).trans e3, e4⟩⟩
theorem own_block {w : World} {B n size : Nat} {e : TypeId} {v : Value} {xs : List Value} (h : w.ownsRow B e size v n xs) {g : Nat} (hg : v.ownBlock = some g) : B ≤ g ∧ g < w.heap.size ∧ ∃ cap, v = .slice (some ⟨g, 0, none⟩) n cap := by
  obtain ⟨h0, hx | ⟨g', cap, c2, e1, e2, e3, e4⟩⟩ := h
  · rw [hx.1] at hg; cases hg
  · have : g' = g := by rw [e1] at hg; simpa [Value.ownBlock] using hg
    subst this
    exact ⟨e2, (Array.getElem?_eq_some_iff.1 e3).1, cap, e1⟩
/-- a slice of numbers reads as it says, below a block -/
def IntsIn (A : Option Addr) (n : Nat) (Z : Nat → Int) (B : Nat) (w : World) : Prop :=
  (n : Int) ≤ 9223372036854775807 ∧ ∀ i, i < n → ∃ a : Addr, A = some a ∧ a.block < B ∧ w.cell? (a.add i) = some (.int .i64 (Z i))
theorem IntsIn.up {A : Option Addr} {n : Nat} {Z : Nat → Int} {B C : Nat} {w w' : World} (h : IntsIn A n Z B w) (hb : Below C w w') (hC : B ≤ C) : IntsIn A n Z B w' :=
  ⟨h.1, fun i hi => by
    obtain ⟨a, e, hl, h1⟩ := h.2 i hi
    exact ⟨a, e, hl, (hb.cell (by simp only [add_block]; omega)).trans h1⟩⟩
theorem IntsIn.more {A : Option Addr} {n : Nat} {Z : Nat → Int} {B C : Nat} {w : World} (h : IntsIn A n Z B w) (hC : B ≤ C) : IntsIn A n Z C w :=
  ⟨h.1, fun i hi => by
    obtain ⟨a, e, hl, h1⟩ := h.2 i hi
    exact ⟨a, e, by omega, h1⟩⟩
theorem ownsRow_keep {w W : World} {base e size n g cap : Nat} {xs : List Value} (h : w.ownsRow base e size (.slice (some ⟨g, 0, none⟩) n cap) n xs) (hb : Below w.heap.size w W) : W.ownsRow base e size (.slice (some ⟨g, 0, none⟩) n cap) n xs :=
  h.kept (row := none) ⟨hb.os, hb.tape, hb.output, hb.size, fun k hk _ => hb.block k hk⟩ (.inr (by intro h; cases h))
theorem own_mono {w : World} {B C : Nat} {e : TypeId} {size n : Nat} {v : Value} {xs : List Value} (h : w.ownsRow B e size v n xs) (hC : C ≤ B) : w.ownsRow C e size v n xs := by
  obtain ⟨h0, hx | ⟨g, cap, cur, e1, e3, h4⟩⟩ := h
  · exact ⟨h0, .inl hx⟩
  · exact ⟨h0, .inr ⟨g, cap, cur, e1, by omega, h4⟩⟩
theorem own_keep {W W' : World} {B n size : Nat} {e : TypeId} {v : Value} {xs : List Value} (h : W.ownsRow B e size v n xs) (hb : Below W.heap.size W W') : W'.ownsRow B e size v n xs := by
  obtain ⟨h1, h2 | ⟨g, cap, cur, rfl, e3, e4⟩⟩ := id h
  · exact ⟨h1, .inl h2⟩
  · exact ownsRow_keep h hb
theorem new1 (W : World) (x : Int) : ∀ j u, ([.int .i64 x] : List Value)[j]? = some u → (W.alloc (.cells #[.int .i64 x] 3)).cell? ((⟨W.heap.size, 0, none⟩ : Addr).add j) = some u := by
  intro j u hj
  match j with
  | 0 => cases hj; unfold Addr.add; rw [if_pos rfl]; go_simp
  | j + 1 => simp at hj
theorem ret_tup2 {a b c d : Int} (h : a = c) (h2 : b = d) : Ending.returned (.tuple #[.int .i64 a, .int .i64 b]) = .returned (.tuple #[.int .i64 c, .int .i64 d]) := by rw [h, h2]
def intsZ (l : List Int) : List Value := l.map fun z => .int .i64 z
theorem intsZ_snoc (l : List Int) (z : Int) : intsZ (l ++ [z]) = intsZ l ++ [.int .i64 z] := by simp [intsZ]
/-- a row of numbers, made from a world on -/
structure RowZ (w0 : World) (l : List Int) (v : Value) (wr : World) : Prop where
  below : Below w0.heap.size w0 wr
  own : wr.ownsRow w0.heap.size 3 1 v l.length (intsZ l)
theorem RowZ.app {w0 wr w1 : World} {l : List Int} {v v' : Value} {o : Obj} {z : Int} (h : RowZ w0 l v wr) (hg : (wr.alloc o).grownBy w1 v.ownBlock)
    (h' : w1.ownsRow w0.heap.size 3 1 v' (l.length + 1) (intsZ l ++ [.int .i64 z])) : RowZ w0 (l ++ [z]) v' w1 := by
  obtain ⟨h1, h2⟩ := h
  refine ⟨?_, ?_⟩
  · refine (h1.alloc h1.size o).grown hg (by simp only [World.size_alloc]; have := h1.size; omega) (fun r e => ?_)
    obtain ⟨_, hx | ⟨g, cap, cur, e1, e3, _⟩⟩ := h2
    · rw [hx.1] at e; cases e
    · rw [e1] at e
      simp [Value.ownBlock] at e
      omega
  · rw [intsZ_snoc, List.length_append]; exact h'
/-- a list of numbers as blots -/
def asZ (l : List Int) (i : Nat) : Int := l.getD i 0
theorem asZ_at {l : List Int} {i : Nat} (h : i < l.length) : asZ l i = l[i] := by simp [asZ, h]
/-- a row of numbers, as it is read -/
theorem row_ints {w : World} {B : Nat} {l : List Int} {v : Value} (h : w.ownsRow B 3 1 v l.length (intsZ l)) (hl : l.length ≤ 1000) : ∃ A c, v = .slice A l.length c ∧ IntsIn A l.length (asZ l) w.heap.size w := by
  obtain ⟨h0, hx | ⟨g, cap, cur, e1, e2, e3, e4, e5, e6, e7⟩⟩ := h
  · refine ⟨none, 0, by rw [hx.1, hx.2], by omega, fun i hi => ?_⟩
    omega
  · refine ⟨some ⟨g, 0, none⟩, cap, e1, by omega, fun i hi => ⟨_, rfl, (Array.getElem?_eq_some_iff.1 e3).1, ?_⟩⟩
    rw [Nat.mul_one] at e7
    have h1 : cur[i]? = some (.int .i64 (asZ l i)) := by
      have h2 : (intsZ l)[i]? = some (.int .i64 (asZ l i)) := by simp [intsZ, asZ, hi]
      rw [← e7, List.getElem?_take_of_lt hi] at h2
      simpa using h2
    have h3 : (⟨g, 0, none⟩ : Addr).add i = ⟨g, i, none⟩ := by rw [Addr.add_lit, Nat.zero_add]
    rw [h3]
    simp [World.cell?, e3, h1]
theorem Try.infoInt : (Try.prog.info? 3).map (fun i => (i.zero, i.size, i.bytes)) = some (some (.int .i64 0), 1, 8) := by kernel_rfl
theorem Try.infoSpan : (Try.prog.info? 23).map (fun i => (i.zero, i.size, i.bytes)) = some (some (.agg #[.int .i64 0, .int .i64 0]), 2, 16) := by kernel_rfl
end Go.Proofs.Ytkidhmajlpceeaa
