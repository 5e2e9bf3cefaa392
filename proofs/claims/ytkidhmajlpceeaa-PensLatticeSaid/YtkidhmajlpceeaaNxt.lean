import Derived.Test.YtkidhmajlpceeaaMid
namespace Go.Proofs.Ytkidhmajlpceeaa
open Go.RowKit
abbrev Mo (s r : Int) : Value := .agg #[.int .i64 s, .int .i64 r]
/-- a number that a pen may meet -/
def Sm (x : Int) : Prop := -100000 ≤ x ∧ x ≤ 100000
set_option maxHeartbeats 1000000 in
theorem isRight_any (p : Pn) (s r : Int) (w : World) (hs : Sm s) (hr : Sm r) (hb : 0 ≤ p.b ∧ p.b ≤ 8) :
    Calls Try.prog 96 #[p.v, Mo s r] w fun e w' => e = .returned (.bool (btw (r - s) (-p.b) p.b)) ∧ Below w.heap.size w w' := by
  obtain ⟨s1, s2⟩ := hs
  obtain ⟨r1, r2⟩ := hr
  obtain ⟨b1, b2⟩ := hb
  have K := Lib.hid fun W => between_any (r - s) (-p.b) p.b W
  go_enter Try.func96, Try.ntmps96
  go_wp2_with fail
  refine (K.out _).mono ?_
  rintro e w' ⟨rfl, rfl⟩
  go_wp2_with fail
  go_ret
  exact ⟨rfl, box2 _ _ _⟩
theorem isRight_t (p : Pn) (s r : Int) (w : World) (hs : Sm s) (hr : Sm r) (hb : 0 ≤ p.b ∧ p.b ≤ 8) (h : -p.b ≤ r - s ∧ r - s ≤ p.b) :
    Calls Try.prog 96 #[p.v, Mo s r] w fun e w' => e = .returned (.bool true) ∧ Below w.heap.size w w' :=
  (isRight_any p s r w hs hr hb).mono fun _ _ ⟨he, hw⟩ => ⟨by rw [he]; simp only [btw, decide_eq_true h], hw⟩
theorem isRight_f (p : Pn) (s r : Int) (w : World) (hs : Sm s) (hr : Sm r) (hb : 0 ≤ p.b ∧ p.b ≤ 8) (h : ¬ (-p.b ≤ r - s ∧ r - s ≤ p.b)) :
    Calls Try.prog 96 #[p.v, Mo s r] w fun e w' => e = .returned (.bool false) ∧ Below w.heap.size w w' :=
  (isRight_any p s r w hs hr hb).mono fun _ _ ⟨he, hw⟩ => ⟨by rw [he]; simp only [btw, decide_eq_false h], hw⟩
set_option maxHeartbeats 1000000 in
theorem next_no1 (p : Pn) (s r x : Int) (w : World) (hs : Sm s) (hr : Sm r) (hb : 0 ≤ p.b ∧ p.b ≤ 8) (h : ¬ (-p.b ≤ r - s ∧ r - s ≤ p.b)) :
    Calls Try.prog 67 #[p.v, Mo s r, .int .i64 x] w fun e w' => e = .returned (.tuple #[Mo 0 0, .bool false]) ∧ Below w.heap.size w w' := by
  have K := Lib.hid fun W => isRight_f p s r W hs hr hb h
  clear hs hr hb h
  go_enter Try.func67, Try.ntmps67
  go_wp2_with fail
  refine (K.out _).mono ?_
  rintro e w1 ⟨rfl, hb⟩
  have s1 := hb.size
  simp only [World.size_alloc] at s1
  have g0 : w1.cell? ⟨w.heap.size + 1 + 1, 0, none⟩ = some (.int .i64 0) := low_cell hb (by simp only [World.size_alloc]; omega) (by go_simp)
  have g1 : w1.cell? ⟨w.heap.size + 1 + 1, 1, none⟩ = some (.int .i64 0) := low_cell hb (by simp only [World.size_alloc]; omega) (by go_simp)
  have f0 : w1.frozen? ⟨w.heap.size + 1 + 1, 0, none⟩ = false := low_frozen hb (by simp only [World.size_alloc]; omega) (by go_simp)
  have f1 : w1.frozen? ⟨w.heap.size + 1 + 1, 1, none⟩ = false := low_frozen hb (by simp only [World.size_alloc]; omega) (by go_simp)
  have HB := Lib.hid hb
  have z : w.heap.size + 1 + 1 < w1.heap.size := by omega
  clear hb
  go_wp2_with fail
  exact bodyPost_ret (v := .tuple #[Mo 0 0, .bool false]) (by simp [results, Try.results67, go_sem, g0, g1]) rfl ⟨rfl, set1 (set1 ((box3 _ _ _ _).trans (HB.out.mono (by simp only [World.size_alloc]; omega))) (by omega) _ _) (by omega) _ _⟩
set_option maxHeartbeats 1000000 in
theorem next_no2 (p : Pn) (s r x : Int) (w : World) (hs : Sm s) (hr : Sm r) (hx : Sm x) (hb : 0 ≤ p.b ∧ p.b ≤ 8) (hrr : 0 ≤ p.r ∧ p.r ≤ 12000) (h : -p.b ≤ r - s ∧ r - s ≤ p.b) (h2 : ¬ (-p.r ≤ x - r ∧ x - r ≤ p.r)) :
    Calls Try.prog 67 #[p.v, Mo s r, .int .i64 x] w fun e w' => e = .returned (.tuple #[Mo 0 0, .bool false]) ∧ Below w.heap.size w w' := by
  have K := Lib.hid fun W => isRight_t p s r W hs hr hb h
  have K2 := Lib.hid fun W => between_f (x - r) (-p.r) p.r W h2
  obtain ⟨r1, r2⟩ := hr
  obtain ⟨x1, x2⟩ := hx
  obtain ⟨q1, q2⟩ := hrr
  clear hs hb h h2
  go_enter Try.func67, Try.ntmps67
  go_wp2_with fail
  refine (K.out _).mono ?_
  rintro e w1 ⟨rfl, hb⟩
  have s1 := hb.size
  simp only [World.size_alloc] at s1
  have a0 : w1.cell? ⟨w.heap.size, 0, none⟩ = some (.int .i64 (p.b)) := low_cell hb (by simp only [World.size_alloc]; omega) (by go_simp)
  have a1 : w1.cell? ⟨w.heap.size, 1, none⟩ = some (.int .i64 (p.lo)) := low_cell hb (by simp only [World.size_alloc]; omega) (by go_simp)
  have a2 : w1.cell? ⟨w.heap.size, 2, none⟩ = some (.int .i64 (p.hi)) := low_cell hb (by simp only [World.size_alloc]; omega) (by go_simp)
  have a3 : w1.cell? ⟨w.heap.size, 3, none⟩ = some (.int .i64 (p.r)) := low_cell hb (by simp only [World.size_alloc]; omega) (by go_simp)
  have m0 : w1.cell? ⟨w.heap.size + 1, 0, none⟩ = some (.int .i64 (s)) := low_cell hb (by simp only [World.size_alloc]; omega) (by go_simp)
  have m1 : w1.cell? ⟨w.heap.size + 1, 1, none⟩ = some (.int .i64 (r)) := low_cell hb (by simp only [World.size_alloc]; omega) (by go_simp)
  have g0 : w1.cell? ⟨w.heap.size + 1 + 1, 0, none⟩ = some (.int .i64 (0)) := low_cell hb (by simp only [World.size_alloc]; omega) (by go_simp)
  have gf0 : w1.frozen? ⟨w.heap.size + 1 + 1, 0, none⟩ = false := low_frozen hb (by simp only [World.size_alloc]; omega) (by go_simp)
  have g1 : w1.cell? ⟨w.heap.size + 1 + 1, 1, none⟩ = some (.int .i64 (0)) := low_cell hb (by simp only [World.size_alloc]; omega) (by go_simp)
  have gf1 : w1.frozen? ⟨w.heap.size + 1 + 1, 1, none⟩ = false := low_frozen hb (by simp only [World.size_alloc]; omega) (by go_simp)
  have HB := Lib.hid hb
  have z : w.heap.size + 1 + 1 < w1.heap.size := by omega
  clear hb
  go_wp2_with fail
  refine (K2.out _).mono ?_
  rintro e w' ⟨rfl, rfl⟩
  go_wp2_with fail
  exact bodyPost_ret (v := .tuple #[Mo 0 0, .bool false]) (by simp [results, Try.results67, go_sem, g0, g1]) rfl ⟨rfl, set1 (set1 ((box3 _ _ _ _).trans (HB.out.mono (by simp only [World.size_alloc]; omega))) (by omega) _ _) (by omega) _ _⟩
set_option maxHeartbeats 1000000 in
theorem next_t (p : Pn) (s r x : Int) (w : World) (hs : Sm s) (hr : Sm r) (hx : Sm x) (hb : 0 ≤ p.b ∧ p.b ≤ 8) (hrr : 0 ≤ p.r ∧ p.r ≤ 12000) (h : -p.b ≤ r - s ∧ r - s ≤ p.b) (h2 : -p.r ≤ x - r ∧ x - r ≤ p.r) :
    Calls Try.prog 67 #[p.v, Mo s r, .int .i64 x] w fun e w' => e = .returned (.tuple #[Mo (lz p.b s x) x, .bool true]) ∧ Below w.heap.size w w' := by
  have K := Lib.hid fun W => isRight_t p s r W hs hr hb h
  have K2 := Lib.hid fun W => between_t (x - r) (-p.r) p.r W h2
  obtain ⟨r1, r2⟩ := hr
  obtain ⟨x1, x2⟩ := hx
  obtain ⟨q1, q2⟩ := hrr
  obtain ⟨b1, b2⟩ := hb
  have K3 := Lib.hid fun (A : Option Addr) (c : Nat) (W : World) (hin : IntsIn A 3 (asZ [x - p.b, s, x + p.b]) W.heap.size W) => middle_any A c (x - p.b) s (x + p.b) W (by omega) hin
  clear hs h h2
  go_enter Try.func67, Try.ntmps67
  go_wp2_with fail
  refine (K.out _).mono ?_
  rintro e w1 ⟨rfl, hb⟩
  have s1 := hb.size
  simp only [World.size_alloc] at s1
  have a0 : w1.cell? ⟨w.heap.size, 0, none⟩ = some (.int .i64 (p.b)) := low_cell hb (by simp only [World.size_alloc]; omega) (by go_simp)
  have a1 : w1.cell? ⟨w.heap.size, 1, none⟩ = some (.int .i64 (p.lo)) := low_cell hb (by simp only [World.size_alloc]; omega) (by go_simp)
  have a2 : w1.cell? ⟨w.heap.size, 2, none⟩ = some (.int .i64 (p.hi)) := low_cell hb (by simp only [World.size_alloc]; omega) (by go_simp)
  have a3 : w1.cell? ⟨w.heap.size, 3, none⟩ = some (.int .i64 (p.r)) := low_cell hb (by simp only [World.size_alloc]; omega) (by go_simp)
  have m0 : w1.cell? ⟨w.heap.size + 1, 0, none⟩ = some (.int .i64 (s)) := low_cell hb (by simp only [World.size_alloc]; omega) (by go_simp)
  have m1 : w1.cell? ⟨w.heap.size + 1, 1, none⟩ = some (.int .i64 (r)) := low_cell hb (by simp only [World.size_alloc]; omega) (by go_simp)
  have g0 : w1.cell? ⟨w.heap.size + 1 + 1, 0, none⟩ = some (.int .i64 (0)) := low_cell hb (by simp only [World.size_alloc]; omega) (by go_simp)
  have gf0 : w1.frozen? ⟨w.heap.size + 1 + 1, 0, none⟩ = false := low_frozen hb (by simp only [World.size_alloc]; omega) (by go_simp)
  have g1 : w1.cell? ⟨w.heap.size + 1 + 1, 1, none⟩ = some (.int .i64 (0)) := low_cell hb (by simp only [World.size_alloc]; omega) (by go_simp)
  have gf1 : w1.frozen? ⟨w.heap.size + 1 + 1, 1, none⟩ = false := low_frozen hb (by simp only [World.size_alloc]; omega) (by go_simp)
  have C1 := Lib.hid ((box3 _ _ _ _).trans (hb.mono (by simp only [World.size_alloc]; omega)))
  have z : w.heap.size + 1 + 1 < w1.heap.size := by omega
  clear hb
  go_wp2_with fail
  refine (K2.out _).mono ?_
  rintro e w' ⟨rfl, rfl⟩
  go_wp2_with fail
  refine (K3.out _ _ _ (ints_of (l := [x - p.b, s, x + p.b]) (by simp) (by simp) (fun i u hi => ?_))).mono ?_
  · match i, hi with
    | 0, hi => cases hi; go_simp
    | 1, hi => cases hi; go_simp
    | 2, hi => cases hi; go_simp
    | i + 3, hi => simp at hi
  rintro e w2 ⟨rfl, hb⟩
  have s2 := hb.size
  simp only [World.size_alloc] at s2
  have k0 : w2.cell? ⟨w.heap.size + 1 + 1, 0, none⟩ = some (.int .i64 (0)) := low_cell hb (by simp only [World.size_alloc]; omega) (by go_simp)
  have kf0 : w2.frozen? ⟨w.heap.size + 1 + 1, 0, none⟩ = false := low_frozen hb (by simp only [World.size_alloc]; omega) (by go_simp)
  have k1 : w2.cell? ⟨w.heap.size + 1 + 1, 1, none⟩ = some (.int .i64 (0)) := low_cell hb (by simp only [World.size_alloc]; omega) (by go_simp)
  have kf1 : w2.frozen? ⟨w.heap.size + 1 + 1, 1, none⟩ = false := low_frozen hb (by simp only [World.size_alloc]; omega) (by go_simp)
  have C2 := Lib.hid (C1.out.trans (((box1 _ _).trans (hb.mono (by simp only [World.size_alloc]; omega))).mono C1.out.size))
  have z2 : w.heap.size + 1 + 1 < w2.heap.size := by omega
  clear hb a0 a1 a2 a3 m0 m1 g0 g1 gf0 gf1
  go_wp2_with fail
  exact bodyPost_ret (v := .tuple #[Mo (lz p.b s x) x, .bool true]) (by simp [results, Try.results67, go_sem, k0, k1, lz]) rfl ⟨rfl, set1 (set1 C2.out (by omega) _ _) (by omega) _ _⟩
end Go.Proofs.Ytkidhmajlpceeaa
