import Derived.Test.YtmeljcbefnojfaaRows
import Derived.WalkKit
import Derived.WalkSpells
import Derived.WalkLawsBesides
import Derived.Lib.Hide
import Derived.Deep.QuietTactic
import Derived.BigQuiet
import Derived.StillTailTactics
import Derived.ProofKit
import Derived.Shelf.SlSorted.Search
import Derived.Shelf.RegionOpen
import Derived.Deep.RegionHeld3
import Derived.BigRegion
import Derived.RegionTactic
import Derived.OwnWalk
import Derived.Deep.AppendLies
import Derived.OwnWalkIn
import Derived.TacticsInMore
import Derived.LoopNIn
import Derived.LoopIn
import Derived.RangeFuncNested
import Derived.RangeFuncBound
import Derived.RangeFuncCalls
import Derived.RangeFuncLeaves
import Derived.Shelf.Abstract
import Derived.Maps.AppendAt
import Derived.RangeFuncOne
namespace Go.Proofs.Ytmeljcbefnojfaa
open Go.RowKit
theorem bcell {W w1 : World} (hb : Below W.heap.size W w1) : (∀ b o, b < W.heap.size → w1.cell? ⟨b, o, none⟩ = W.cell? ⟨b, o, none⟩) ∧ (∀ b o, b < W.heap.size → w1.frozen? ⟨b, o, none⟩ = W.frozen? ⟨b, o, none⟩) :=
  ⟨fun b o h => hb.cell (p := ⟨b, o, none⟩) h, fun b o h => hb.frozen (p := ⟨b, o, none⟩) h⟩
def btw (n a b : Int) : Bool := decide (a ≤ n ∧ n ≤ b)

set_option maxHeartbeats 400000 in
theorem between_any (n a b : Int) (w : World) :
    Calls Try.prog 75 #[.int .i64 n, .int .i64 a, .int .i64 b] w fun e w' => e = .returned (.bool (btw n a b)) ∧ w = w' := by
  by_cases h : a ≤ n
  · have h1 : decide (a ≤ n) = true := by simpa using h
    go_enter Try.func75, Try.ntmps75
    go_wp2
    go_ret
    exact ⟨by simp [btw, h], rfl⟩
  · have h1 : decide (a ≤ n) = false := by simpa using h
    go_enter Try.func75, Try.ntmps75
    go_wp2
    go_ret
    exact ⟨by simp [btw]; omega, rfl⟩
theorem between_t (n a b : Int) (w : World) (h : a ≤ n ∧ n ≤ b) :
    Calls Try.prog 75 #[.int .i64 n, .int .i64 a, .int .i64 b] w fun e w' => e = .returned (.bool true) ∧ w = w' :=
  (between_any n a b w).mono fun _ _ ⟨he, hw⟩ => ⟨by rw [he]; simp [btw, h], hw⟩
theorem between_f (n a b : Int) (w : World) (h : ¬ (a ≤ n ∧ n ≤ b)) :
    Calls Try.prog 75 #[.int .i64 n, .int .i64 a, .int .i64 b] w fun e w' => e = .returned (.bool false) ∧ w = w' :=
  (between_any n a b w).mono fun _ _ ⟨he, hw⟩ => ⟨by rw [he]; simp only [btw, decide_eq_false h], hw⟩

def shr (a b : Int) : Bool := decide (900 ≤ a ∧ a ≤ b ∧ b ≤ 1100)
set_option maxHeartbeats 400000 in
theorem isShrinkage_any (a b : Int) (w : World) :
    Calls Try.prog 76 #[.agg #[.int .i64 a, .int .i64 b]] w fun e w' => e = .returned (.bool (shr a b)) ∧ Below w.heap.size w w' := by
  by_cases h : 900 ≤ a
  · by_cases h2 : a ≤ b
    · have h1 : decide (900 ≤ a) = true := by simpa using h
      have h3 : decide (a ≤ b) = true := by simpa using h2
      go_enter Try.func76, Try.ntmps76
      go_wp2
      go_ret
      exact ⟨by simp [shr, h, h2], (Below.refl _ _).alloc (Nat.le_refl _) _⟩
    · have h1 : decide (900 ≤ a) = true := by simpa using h
      have h3 : decide (a ≤ b) = false := by simpa using h2
      go_enter Try.func76, Try.ntmps76
      go_wp2
      go_ret
      exact ⟨by simp [shr]; omega, (Below.refl _ _).alloc (Nat.le_refl _) _⟩
  · have h1 : decide (900 ≤ a) = false := by simpa using h
    go_enter Try.func76, Try.ntmps76
    go_wp2
    go_ret
    exact ⟨by simp [shr]; omega, (Below.refl _ _).alloc (Nat.le_refl _) _⟩
theorem isShrinkage_t (a b : Int) (w : World) (h : 900 ≤ a ∧ a ≤ b ∧ b ≤ 1100) :
    Calls Try.prog 76 #[.agg #[.int .i64 a, .int .i64 b]] w fun e w' => e = .returned (.bool true) ∧ Below w.heap.size w w' :=
  (isShrinkage_any a b w).mono fun _ _ ⟨he, hw⟩ => ⟨by rw [he]; simp only [shr, decide_eq_true h], hw⟩
theorem isShrinkage_f (a b : Int) (w : World) (h : ¬ (900 ≤ a ∧ a ≤ b ∧ b ≤ 1100)) :
    Calls Try.prog 76 #[.agg #[.int .i64 a, .int .i64 b]] w fun e w' => e = .returned (.bool false) ∧ Below w.heap.size w w' :=
  (isShrinkage_any a b w).mono fun _ _ ⟨he, hw⟩ => ⟨by rw [he]; simp only [shr, decide_eq_false h], hw⟩

/-- a paper's numbers -/
structure Pap where
  pitch : Int
  height : Int
  radius : Int
  low : Int
  high : Int
  cols : Int
  al : Int
  ah : Int
  cl : Int
  ch : Int
abbrev Pap.v (p : Pap) : Value := .agg #[.int .i64 p.pitch, .int .i64 p.height, .int .i64 p.radius, .int .i64 p.low, .int .i64 p.high, .int .i64 p.cols, .int .i64 p.al, .int .i64 p.ah, .int .i64 p.cl, .int .i64 p.ch]
structure Pap.Ok (p : Pap) : Prop where
  pitch : 1 ≤ p.pitch ∧ p.pitch ≤ 10000
  height : 1 ≤ p.height ∧ p.height ≤ 400000
  radius : p.radius = 0 ∨ p.height ≤ p.radius ∧ p.radius ≤ 4000000
  low : 0 ≤ p.low ∧ p.low < p.high ∧ p.high ≤ 12000
  rise : p.high - p.low ≤ p.height
  cols : 1 ≤ p.cols ∧ p.cols ≤ 200
  along : 900 ≤ p.al ∧ p.al ≤ p.ah ∧ p.ah ≤ 1100
  across : 900 ≤ p.cl ∧ p.cl ≤ p.ch ∧ p.ch ≤ 1100

set_option maxHeartbeats 1000000 in
theorem checkPaper_ok (p : Pap) (w : World) (h : p.Ok) :
    Calls Try.prog 27 #[p.v] w fun e w' => e = .returned (.int .i64 0) ∧ Below w.heap.size w w' := by
  obtain ⟨h1, h2, h3, h4, h5, h6, h7, h8⟩ := h
  have d1 : decide (p.low < 0) = false := by simp; omega
  have d2 : decide (p.low ≥ p.high) = false := by simp; omega
  have d3 : decide (p.high > 12000) = false := by simp; omega
  have d4 : decide (p.high - p.low > p.height) = false := by simp; omega
  obtain ⟨h41, h42, h43⟩ := h4
  by_cases hr : p.radius = 0
  · have e1 : (p.radius == 0) = true := by simp [hr]
    have e2 : (p.radius != 0) = false := by simp [hr]
    have HR := Lib.hid hr
    clear hr h3
    go_enter Try.func27, Try.ntmps27
    go_wp2_with (first | (go_at_call 75; refine (between_t _ _ _ _ (by assumption)).mono ?_; rintro e w' ⟨rfl, rfl⟩) | fail)
    refine (isShrinkage_t _ _ _ (by assumption)).mono ?_
    rintro e w1 ⟨rfl, hb⟩
    obtain ⟨hc, hf⟩ := bcell hb
    have hz : w.heap.size + 1 ≤ w1.heap.size := by have := hb.size; simpa using this
    go_wp2_with fail
    refine (isShrinkage_t _ _ _ (by assumption)).mono ?_
    rintro e w2 ⟨rfl, hb2⟩
    go_wp2_with fail
    go_ret
    exact ⟨rfl, (((Below.refl _ _).alloc (Nat.le_refl _) _).trans (hb.mono (by simp))).trans (hb2.mono (by omega))⟩
  · have e1 : (p.radius == 0) = false := by simp [hr]
    have e2 : (p.radius != 0) = true := by simp [hr]
    have h3' : p.height ≤ p.radius ∧ p.radius ≤ 4000000 := by omega
    clear hr h3
    go_enter Try.func27, Try.ntmps27
    go_wp2_with (first | (go_at_call 75; refine (between_t _ _ _ _ (by assumption)).mono ?_; rintro e w' ⟨rfl, rfl⟩) | fail)
    refine (isShrinkage_t _ _ _ (by assumption)).mono ?_
    rintro e w1 ⟨rfl, hb⟩
    obtain ⟨hc, hf⟩ := bcell hb
    have hz : w.heap.size + 1 ≤ w1.heap.size := by have := hb.size; simpa using this
    go_wp2_with fail
    refine (isShrinkage_t _ _ _ (by assumption)).mono ?_
    rintro e w2 ⟨rfl, hb2⟩
    go_wp2_with fail
    go_ret
    exact ⟨rfl, (((Below.refl _ _).alloc (Nat.le_refl _) _).trans (hb.mono (by simp))).trans (hb2.mono (by omega))⟩
end Go.Proofs.Ytmeljcbefnojfaa
