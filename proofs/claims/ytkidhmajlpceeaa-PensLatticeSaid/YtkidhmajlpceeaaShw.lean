import Derived.Test.YtkidhmajlpceeaaNxt
namespace Go.Proofs.Ytkidhmajlpceeaa
open Go.RowKit
/-- what a pen shows of real levels, the first number being f -/
def shw (b f : Int) (Z : Nat → Int) : Nat → Int
  | 0 => lz b f (Z 0)
  | k + 1 => lz b (shw b f Z k) (Z (k + 1))
/-- the moment ahead of the k-th level -/
def pvS (b f : Int) (Z : Nat → Int) : Nat → Int
  | 0 => f
  | k + 1 => shw b f Z k
def pvR (Z : Nat → Int) : Nat → Int
  | 0 => Z 0
  | k + 1 => Z k
theorem shw_pv (b f : Int) (Z : Nat → Int) (k : Nat) : shw b f Z k = lz b (pvS b f Z k) (Z k) := by cases k <;> rfl
/-- the k-th level can follow -/
def okAt (p : Pn) (f : Int) (Z : Nat → Int) : Nat → Prop
  | 0 => -p.b ≤ Z 0 - f ∧ Z 0 - f ≤ p.b
  | k + 1 => -p.r ≤ Z (k + 1) - Z k ∧ Z (k + 1) - Z k ≤ p.r
theorem lz_near {b : Int} (hb : 0 ≤ b) (s r : Int) : -b ≤ r - lz b s r ∧ r - lz b s r ≤ b := by unfold lz; omega
theorem shw_near {b : Int} (hb : 0 ≤ b) (f : Int) (Z : Nat → Int) (k : Nat) : -b ≤ Z k - shw b f Z k ∧ Z k - shw b f Z k ≤ b := by rw [shw_pv]; exact lz_near hb _ _
structure Rd (p : Pn) (f : Int) (Z : Nat → Int) (k : Nat) : Prop where
  s : Sm (pvS p.b f Z k)
  r : Sm (pvR Z k)
  z : Sm (Z k)
  ok : okAt p f Z k → (-p.b ≤ pvR Z k - pvS p.b f Z k ∧ pvR Z k - pvS p.b f Z k ≤ p.b) ∧ (-p.r ≤ Z k - pvR Z k ∧ Z k - pvR Z k ≤ p.r)
  no : ¬ okAt p f Z k → ¬ (-p.b ≤ pvR Z k - pvS p.b f Z k ∧ pvR Z k - pvS p.b f Z k ≤ p.b) ∨ (-p.b ≤ pvR Z k - pvS p.b f Z k ∧ pvR Z k - pvS p.b f Z k ≤ p.b) ∧ ¬ (-p.r ≤ Z k - pvR Z k ∧ Z k - pvR Z k ≤ p.r)
theorem rd_of {p : Pn} {f : Int} {Z : Nat → Int} {n k : Nat} (h : p.Ok) (hf : -60000 ≤ f ∧ f ≤ 60000) (hL : Lvs Z n) (hk : k < n) : Rd p f Z k := by
  have hb := h.b
  have hr := h.r
  have hz := hL k hk
  cases k with
  | zero => exact ⟨by unfold Sm; show -100000 ≤ f ∧ f ≤ 100000; omega, by unfold Sm; show -100000 ≤ Z 0 ∧ Z 0 ≤ 100000; omega, by unfold Sm; omega, fun h => ⟨h, by show -p.r ≤ Z 0 - Z 0 ∧ Z 0 - Z 0 ≤ p.r; omega⟩, fun h => .inl h⟩
  | succ k =>
    have h0 := hL k (by omega)
    have h1 := shw_near hb.1 f Z k
    refine ⟨?_, ?_, ?_, fun h => ⟨h1, h⟩, fun h => .inr ⟨h1, h⟩⟩
    · unfold Sm; show -100000 ≤ shw p.b f Z k ∧ shw p.b f Z k ≤ 100000; omega
    · unfold Sm; show -100000 ≤ Z k ∧ Z k ≤ 100000; omega
    · unfold Sm; omega
/-- all levels up to n can follow, or there is a first one that cannot -/
theorem ok_or (p : Pn) (f : Int) (Z : Nat → Int) (n : Nat) : (∀ k, k < n → okAt p f Z k) ∨ ∃ j, j < n ∧ (∀ k, k < j → okAt p f Z k) ∧ ¬ okAt p f Z j := by
  induction n with
  | zero => exact .inl fun i hi => absurd hi (by omega)
  | succ n ih =>
    rcases ih with h | ⟨k, hk, h1, h2⟩
    · by_cases hx : okAt p f Z n
      · exact .inl fun i hi => (Nat.lt_succ_iff_lt_or_eq.1 hi).elim (h i) (fun e => e ▸ hx)
      · exact .inr ⟨n, by omega, h, hx⟩
    · exact .inr ⟨k, by omega, h1, h2⟩
/-- a list and true, or nothing and false -/
def FPost (w : World) (L : List Int) (g : Bool) (e : Ending) (w' : World) : Prop :=
  (g = true → ∃ v, e = .returned (.tuple #[v, .bool true]) ∧ RowZ w L v w') ∧ (g = false → e = .returned (.tuple #[.slice none 0 0, .bool false]) ∧ Below w.heap.size w w')
/-- a row while it is made, behind a box -/
structure ShI (w : World) (b f : Int) (Z : Nat → Int) (k : Nat) (v : Value) (wr : World) : Prop where
  below : Below w.heap.size w wr
  own : wr.ownsRow (w.heap.size + 1) 3 1 v k (intsZ (upTo (shw b f Z) k))
  c0 : wr.cell? ⟨w.heap.size, 0, none⟩ = some (.int .i64 (pvS b f Z k))
  c1 : wr.cell? ⟨w.heap.size, 1, none⟩ = some (.int .i64 (pvR Z k))
  f0 : wr.frozen? ⟨w.heap.size, 0, none⟩ = false
  f1 : wr.frozen? ⟨w.heap.size, 1, none⟩ = false
theorem ShI.lt {w wr : World} {b f : Int} {Z : Nat → Int} {k : Nat} {v : Value} (h : ShI w b f Z k v wr) : w.heap.size < wr.heap.size := World.block_lt_of_cell? _ _ h.c0
theorem own_ne {w : World} {B n size : Nat} {e : TypeId} {v : Value} {xs : List Value} (h : w.ownsRow B e size v n xs) {b : Nat} (hb : b < B) : some b ≠ v.ownBlock := by
  intro e2
  have := own_block h e2.symm
  omega
theorem own_out {w : World} {B n size : Nat} {e : TypeId} {v : Value} {xs : List Value} (h : w.ownsRow B e size v n xs) {b : Nat} (hb : w.heap.size ≤ b) : some b ≠ v.ownBlock := by
  intro e2
  have := own_block h e2.symm
  omega
theorem cell_row {W w1 : World} {row : Option Nat} {b o : Nat} {v : Value} (hg : W.grownBy w1 row) (hl : b < W.heap.size) (hr : some b ≠ row) (h : W.cell? ⟨b, o, none⟩ = some v) : w1.cell? ⟨b, o, none⟩ = some v := (World.cell?_of_block (a := ⟨b, o, none⟩) (hg.block b hl hr)).trans h
theorem frozen_row {W w1 : World} {row : Option Nat} {b o : Nat} {v : Bool} (hg : W.grownBy w1 row) (hl : b < W.heap.size) (hr : some b ≠ row) (h : W.frozen? ⟨b, o, none⟩ = v) : w1.frozen? ⟨b, o, none⟩ = v := (World.frozen?_of_block (a := ⟨b, o, none⟩) (hg.block b hl hr)).trans h
theorem own_set {w : World} {B n size : Nat} {e : TypeId} {v : Value} {xs : List Value} (h : w.ownsRow B e size v n xs) {b o : Nat} {u : Value} (hb : b < B) : (w.setCell ⟨b, o, none⟩ u).ownsRow B e size v n xs :=
  own_same h fun g hg => Below.heap_setCell _ _ _ g (fun e2 => by have := own_block h hg; simp at e2; omega)
theorem ShI.step {w wr w1 w2 : World} {b f : Int} {Z : Nat → Int} {k : Nat} {v v' : Value} {o1 o2 : Obj} (h : ShI w b f Z k v wr) (hb : Below wr.heap.size wr w1) (hg : ((w1.alloc o1).alloc o2).grownBy w2 v.ownBlock)
    (hown : w2.ownsRow (w.heap.size + 1) 3 1 v' (k + 1) (intsZ (upTo (shw b f Z) k) ++ [.int .i64 (shw b f Z k)])) :
    ShI w b f Z (k + 1) v' ((w2.setCell ⟨w.heap.size, 0, none⟩ (.int .i64 (shw b f Z k))).setCell ⟨w.heap.size, 1, none⟩ (.int .i64 (Z k))) := by
  have z := h.lt
  have s1 := hb.size
  have ne := own_ne h.own (b := w.heap.size) (by omega)
  have e0 : w2.cell? ⟨w.heap.size, 0, none⟩ = some (.int .i64 (pvS b f Z k)) := cell_row hg (by simp only [World.size_alloc]; omega) ne (cell_up (box2 _ _ _) (by omega) (cell_up hb z h.c0))
  have e1 : w2.cell? ⟨w.heap.size, 1, none⟩ = some (.int .i64 (pvR Z k)) := cell_row hg (by simp only [World.size_alloc]; omega) ne (cell_up (box2 _ _ _) (by omega) (cell_up hb z h.c1))
  have e2 : w2.frozen? ⟨w.heap.size, 0, none⟩ = false := frozen_row hg (by simp only [World.size_alloc]; omega) ne (low_frozen (box2 _ _ _) (by omega) (low_frozen hb z h.f0))
  have e3 : w2.frozen? ⟨w.heap.size, 1, none⟩ = false := frozen_row hg (by simp only [World.size_alloc]; omega) ne (low_frozen (box2 _ _ _) (by omega) (low_frozen hb z h.f1))
  refine ⟨?_, ?_, ?_, ?_, ?_, ?_⟩
  · refine set1 (set1 ?_ (Nat.le_refl _) _ _) (Nat.le_refl _) _ _
    refine (h.below.trans ((hb.trans ((box2 _ _ _).mono s1)).mono h.below.size)).grown hg (by simp only [World.size_alloc]; omega) (fun r e => ?_)
    have := own_block h.own e
    omega
  · rw [upTo_succ, intsZ_snoc]
    exact own_set (own_set hown (by omega)) (by omega)
  · show _ = some (Value.int .i64 (shw b f Z k))
    go_simp
  · show _ = some (Value.int .i64 (Z k))
    go_simp
  · go_simp
  · go_simp
theorem ShI.facts {w wr w1 w2 : World} {b f x y : Int} {Z : Nat → Int} {k : Nat} {v : Value} {o2 : Obj} (h : ShI w b f Z k v wr) (hb : Below wr.heap.size wr w1) (hg : ((w1.alloc (.cells #[.int .i64 x, .int .i64 y] 27)).alloc o2).grownBy w2 v.ownBlock) :
    w2.cell? ⟨w.heap.size, 0, none⟩ = some (.int .i64 (pvS b f Z k)) ∧ w2.cell? ⟨w.heap.size, 1, none⟩ = some (.int .i64 (pvR Z k)) ∧ w2.frozen? ⟨w.heap.size, 0, none⟩ = false ∧ w2.frozen? ⟨w.heap.size, 1, none⟩ = false ∧
    w2.cell? ⟨w1.heap.size, 0, none⟩ = some (.int .i64 x) ∧ w2.cell? ⟨w1.heap.size, 1, none⟩ = some (.int .i64 y) ∧ w.heap.size < w2.heap.size ∧ w1.heap.size < w2.heap.size := by
  have z := h.lt
  have s1 := hb.size
  have s2 := hg.size
  simp only [World.size_alloc] at s2
  have ne := own_ne h.own (b := w.heap.size) (by omega)
  have ne1 := own_out h.own (b := w1.heap.size) s1
  have l0 : w.heap.size < ((w1.alloc (.cells #[.int .i64 x, .int .i64 y] 27)).alloc o2).heap.size := by rw [World.size_alloc, World.size_alloc]; omega
  have l1 : w1.heap.size < ((w1.alloc (.cells #[.int .i64 x, .int .i64 y] 27)).alloc o2).heap.size := by rw [World.size_alloc, World.size_alloc]; omega
  refine ⟨cell_row hg l0 ne (cell_up (box2 _ _ _) (by omega) (cell_up hb z h.c0)), cell_row hg l0 ne (cell_up (box2 _ _ _) (by omega) (cell_up hb z h.c1)), frozen_row hg l0 ne (low_frozen (box2 _ _ _) (by omega) (low_frozen hb z h.f0)), frozen_row hg l0 ne (low_frozen (box2 _ _ _) (by omega) (low_frozen hb z h.f1)), cell_row hg l1 ne1 (by go_simp), cell_row hg l1 ne1 (by go_simp), by omega, by omega⟩
end Go.Proofs.Ytkidhmajlpceeaa
