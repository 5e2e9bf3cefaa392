import Derived.Test.YtmeljcbefnojfaaNo
import Derived.Deep.QuietTactic
import Derived.BigQuiet
namespace Go.Proofs.Ytmeljcbefnojfaa
open Go.RowKit
theorem box1 (w : World) (o : Obj) : Below w.heap.size w (w.alloc o) := (Below.refl _ _).alloc (Nat.le_refl _) _

set_option maxHeartbeats 400000 in
theorem checkHeight_bad (p : Pap) (y : Int) (w : World) (h : ¬ p.Ok) :
    Calls Try.prog 92 #[p.v, .int .i64 y] w fun e w' => e = .returned (.int .i64 10) ∧ Below w.heap.size w w' := by
  go_enter Try.func92, Try.ntmps92
  go_wp2_with fail
  refine (checkPaper_no p _ h).mono ?_
  rintro e w1 ⟨rfl, hb⟩
  obtain ⟨hc, hf⟩ := bcell hb
  go_wp2_with fail
  go_ret
  exact ⟨rfl, (box1 _ _).trans (hb.mono (by simp))⟩
set_option maxHeartbeats 400000 in
theorem checkHeight_arg (p : Pap) (y : Int) (w : World) (h : p.Ok) (hy : ¬ (0 ≤ y ∧ y ≤ p.height)) :
    Calls Try.prog 92 #[p.v, .int .i64 y] w fun e w' => e = .returned (.int .i64 1) ∧ Below w.heap.size w w' := by
  go_enter Try.func92, Try.ntmps92
  go_wp2_with fail
  refine (checkPaper_ok p _ h).mono ?_
  rintro e w1 ⟨rfl, hb⟩
  obtain ⟨hc, hf⟩ := bcell hb
  go_wp2_with fail
  refine (between_f _ _ _ _ hy).mono ?_
  rintro e w2 ⟨rfl, rfl⟩
  go_wp2_with fail
  go_ret
  exact ⟨rfl, (box1 _ _).trans (hb.mono (by simp))⟩
set_option maxHeartbeats 400000 in
theorem checkHeight_ok (p : Pap) (y : Int) (w : World) (h : p.Ok) (hy : 0 ≤ y ∧ y ≤ p.height) :
    Calls Try.prog 92 #[p.v, .int .i64 y] w fun e w' => e = .returned (.int .i64 0) ∧ Below w.heap.size w w' := by
  go_enter Try.func92, Try.ntmps92
  go_wp2_with fail
  refine (checkPaper_ok p _ h).mono ?_
  rintro e w1 ⟨rfl, hb⟩
  obtain ⟨hc, hf⟩ := bcell hb
  go_wp2_with fail
  refine (between_t _ _ _ _ hy).mono ?_
  rintro e w2 ⟨rfl, rfl⟩
  go_wp2_with fail
  go_ret
  exact ⟨rfl, (box1 _ _).trans (hb.mono (by simp))⟩

/-- the level of a height -/
def lev (p : Pap) (y : Int) : Int := p.low + y * (p.high - p.low) / p.height
theorem mul_bd {a b A B : Int} (h0 : 0 ≤ a) (h1 : a ≤ A) (h2 : 0 ≤ b) (h3 : b ≤ B) : 0 ≤ a * b ∧ a * b ≤ A * B :=
  ⟨Int.mul_nonneg h0 h2, Int.mul_le_mul h1 h3 h2 (by omega)⟩
theorem div_bd {a b : Int} (h0 : 0 ≤ a) (h1 : 1 ≤ b) : 0 ≤ a / b ∧ a / b ≤ a :=
  ⟨Int.ediv_nonneg h0 (by omega), Int.ediv_le_self _ h0⟩
set_option maxHeartbeats 400000 in
theorem level_any (p : Pap) (y : Int) (w : World) (h : p.Ok) (hy : 0 ≤ y ∧ y ≤ p.height) :
    Calls Try.prog 95 #[p.v, .int .i64 y] w fun e w' => e = .returned (.int .i64 (lev p y)) ∧ Below w.heap.size w w' := by
  obtain ⟨h1, h2, h3, h4, h5, h6, h7, h8⟩ := h
  have hm := mul_bd (a := y) (b := p.high - p.low) (A := 400000) (B := 12000) (by omega) (by omega) (by omega) (by omega)
  have hd := div_bd (b := p.height) hm.1 h2.1
  obtain ⟨hm1, hm2⟩ := hm
  obtain ⟨hd1, hd2⟩ := hd
  clear h3 h7 h8
  go_enter Try.func95, Try.ntmps95
  go_wp2_with fail
  go_quiet (fail)
  go_wp2_with fail
  go_ret
  exact ⟨rfl, below_drewN (box1 _ _) _⟩

/-- division of what is not negative, rounded up -/
def cdiv (n b : Int) : Int := (n + b - 1) / b
set_option maxHeartbeats 400000 in
theorem ceilDiv_any (n b : Int) (w : World) (h0 : 0 ≤ n) (h1 : n ≤ 1000000000000000) (h2 : 1 ≤ b) (h3 : b ≤ 1000000000000000) :
    Calls Try.prog 123 #[.int .i64 n, .int .i64 b] w fun e w' => e = .returned (.int .i64 (cdiv n b)) ∧ w = w' := by
  have hd := div_bd (a := n + b - 1) (b := b) (by omega) h2
  obtain ⟨hd1, hd2⟩ := hd
  go_enter Try.func123, Try.ntmps123
  go_wp2_with fail
  go_ret
  exact ⟨rfl, rfl⟩

/-- the least height at which no level is less -/
def lowst (p : Pap) (l : Int) : Int := cdiv ((l - p.low) * p.height) (p.high - p.low)
set_option maxHeartbeats 400000 in
theorem lowest_any (p : Pap) (l : Int) (w : World) (h : p.Ok) (hl : p.low ≤ l ∧ l ≤ p.high + 1) :
    Calls Try.prog 96 #[p.v, .int .i64 l] w fun e w' => e = .returned (.int .i64 (lowst p l)) ∧ Below w.heap.size w w' := by
  obtain ⟨h1, h2, h3, h4, h5, h6, h7, h8⟩ := h
  have hm := mul_bd (a := l - p.low) (b := p.height) (A := 12001) (B := 400000) (by omega) (by omega) (by omega) (by omega)
  obtain ⟨hm1, hm2⟩ := hm
  clear h3 h7 h8
  go_enter Try.func96, Try.ntmps96
  go_wp2_with fail
  refine (ceilDiv_any _ _ _ (by omega) (by omega) (by omega) (by omega)).mono ?_
  rintro e w1 ⟨rfl, rfl⟩
  go_wp2_with fail
  go_ret
  exact ⟨rfl, box1 _ _⟩
end Go.Proofs.Ytmeljcbefnojfaa
