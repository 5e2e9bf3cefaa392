import Derived.Test.YtmeljcbefnojfaaRpt
import Derived.Test.YtmeljcbefnojfaaOpn
import Derived.Deep.Matrix
namespace Go.Proofs.Ytmeljcbefnojfaa
open Go.RowKit
theorem add_block (a : Addr) (n : Nat) : (a.add n).block = a.block := by unfold Addr.add; split <;> rfl
theorem add_adds (a : Addr) (i j : Nat) : (a.add i).add j = a.add (i + j) := by
  unfold Addr.add
  by_cases hi : i = 0 <;> by_cases hj : j = 0 <;> simp [hi, hj, Nat.add_assoc]
theorem add_at (a : Addr) (m j : Nat) (hj : 0 < j) : (⟨(a.add m).block, (a.add m).off + j, none⟩ : Addr) = a.add (m + j) := by
  rw [← add_adds]
  generalize a.add m = b
  unfold Addr.add
  rw [if_neg (by omega)]
/-- a slice of points reads as it says, below a block -/
def PtsIn (A : Option Addr) (n : Nat) (P : Nat → Pt) (B : Nat) (w : World) : Prop :=
  (n : Int) ≤ 9223372036854775807 ∧ ∀ i, i < n → ∃ a : Addr, A = some a ∧ a.block < B ∧ w.cell? (a.add (i * 3)) = some (.int .i64 (P i).x) ∧ w.cell? ⟨(a.add (i * 3)).block, (a.add (i * 3)).off + 1, none⟩ = some (.int .i64 (P i).y) ∧ w.cell? ⟨(a.add (i * 3)).block, (a.add (i * 3)).off + 2, none⟩ = some (.int .i64 (P i).half)
theorem PtsIn.up {A : Option Addr} {n : Nat} {P : Nat → Pt} {B C : Nat} {w w' : World} (h : PtsIn A n P B w) (hb : Below C w w') (hC : B ≤ C) : PtsIn A n P B w' :=
  ⟨h.1, fun i hi => by
    obtain ⟨a, e, hl, h1, h2, h3⟩ := h.2 i hi
    exact ⟨a, e, hl, (hb.cell (by simp only [add_block]; omega)).trans h1, (hb.cell (by simp only [add_block]; omega)).trans h2, (hb.cell (by simp only [add_block]; omega)).trans h3⟩⟩
/-- a set of spans reads as it says, below a block -/
def SpsIn (A : Option Addr) (n : Nat) (S : Nat → Int × Int) (B : Nat) (w : World) : Prop :=
  (n : Int) ≤ 9223372036854775807 ∧ ∀ i, i < n → ∃ a : Addr, A = some a ∧ a.block < B ∧ w.cell? (a.add (i * 2)) = some (.int .i64 (S i).1) ∧ w.cell? ⟨(a.add (i * 2)).block, (a.add (i * 2)).off + 1, none⟩ = some (.int .i64 (S i).2)
theorem SpsIn.up {A : Option Addr} {n : Nat} {S : Nat → Int × Int} {B C : Nat} {w w' : World} (h : SpsIn A n S B w) (hb : Below C w w') (hC : B ≤ C) : SpsIn A n S B w' :=
  ⟨h.1, fun i hi => by
    obtain ⟨a, e, hl, h1, h2⟩ := h.2 i hi
    exact ⟨a, e, hl, (hb.cell (by simp only [add_block]; omega)).trans h1, (hb.cell (by simp only [add_block]; omega)).trans h2⟩⟩
theorem SpsIn.more {A : Option Addr} {n : Nat} {S : Nat → Int × Int} {B C : Nat} {w : World} (h : SpsIn A n S B w) (hC : B ≤ C) : SpsIn A n S C w :=
  ⟨h.1, fun i hi => by
    obtain ⟨a, e, hl, h1, h2⟩ := h.2 i hi
    exact ⟨a, e, by omega, h1, h2⟩⟩
theorem PtsIn.more {A : Option Addr} {n : Nat} {P : Nat → Pt} {B C : Nat} {w : World} (h : PtsIn A n P B w) (hC : B ≤ C) : PtsIn A n P C w :=
  ⟨h.1, fun i hi => by
    obtain ⟨a, e, hl, h1, h2, h3⟩ := h.2 i hi
    exact ⟨a, e, by omega, h1, h2, h3⟩⟩
/-- the columns of an inked sheet: where each set lies, its length and room, its spans -/
structure Cls where
  A : Nat → Option Addr
  L : Nat → Nat
  C : Nat → Nat
  S : Nat → Nat → Int × Int
def ClsIn (A : Option Addr) (n : Nat) (x : Cls) (B : Nat) (w : World) : Prop :=
  (n : Int) ≤ 9223372036854775807 ∧ ∀ i, i < n → ∃ a : Addr, A = some a ∧ a.block < B ∧ w.cell? (a.add i) = some (.slice (x.A i) (x.L i) (x.C i)) ∧ SpsIn (x.A i) (x.L i) (x.S i) B w
theorem ClsIn.up {A : Option Addr} {n : Nat} {x : Cls} {B C : Nat} {w w' : World} (h : ClsIn A n x B w) (hb : Below C w w') (hC : B ≤ C) : ClsIn A n x B w' :=
  ⟨h.1, fun i hi => by
    obtain ⟨a, e, hl, h1, h2⟩ := h.2 i hi
    exact ⟨a, e, hl, (hb.cell (by simp only [add_block]; omega)).trans h1, h2.up hb hC⟩⟩
theorem ClsIn.more {A : Option Addr} {n : Nat} {x : Cls} {B C : Nat} {w : World} (h : ClsIn A n x B w) (hC : B ≤ C) : ClsIn A n x C w :=
  ⟨h.1, fun i hi => by
    obtain ⟨a, e, hl, h1, h2⟩ := h.2 i hi
    exact ⟨a, e, by omega, h1, h2.more hC⟩⟩
/-- the first point that is not valid, or the number of points -/
def firstBad (P : Nat → Pt) (n : Nat) : Nat → Prop := fun k => (∀ i, i < k → (P i).Ok) ∧ (k < n → ¬ (P k).Ok) ∧ k ≤ n
theorem firstBad_ex (P : Nat → Pt) (n : Nat) : ∃ k, firstBad P n k := by
  induction n with
  | zero => exact ⟨0, fun i hi => absurd hi (by omega), fun h => absurd h (by omega), Nat.le_refl _⟩
  | succ n ih =>
    obtain ⟨k, h1, h2, h3⟩ := ih
    by_cases hk : k < n
    · exact ⟨k, h1, fun _ => h2 hk, by omega⟩
    · obtain rfl : k = n := by omega
      by_cases hP : (P k).Ok
      · refine ⟨k + 1, fun i hi => ?_, fun h => absurd h (by omega), by omega⟩
        by_cases hik : i = k
        · subst hik; exact hP
        · exact h1 i (by omega)
      · exact ⟨k, h1, fun _ => hP, by omega⟩
end Go.Proofs.Ytmeljcbefnojfaa
