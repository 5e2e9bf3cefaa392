/- The law PaperBack returns true for every paper, every point and every two numbers, and leaves its arguments as they were; no condition. -/
import Derived.Test.YtmeljcbefnojfaaOpp
import Derived.Test.YtmeljcbefnojfaaPlc
import Derived.Test.YtmeljcbefnojfaaShk
namespace Go.Proofs.Ytmeljcbefnojfaa
open Go.ChangeShapes Go.WideShapes Go.ChangeAt Go.RowKit
/-- shrinking and reading -/
theorem back_along {n k lo hi h : Int} (hn : 0 ≤ n) (hlo : 900 ≤ lo) (h1 : lo ≤ k) (h2 : k ≤ hi) (hh : 1 ≤ h) :
    prLo (n * k / 1000) h hi ≤ n ∧ n ≤ prHi (n * k / 1000) h lo := by
  have m1 : n * k ≤ n * hi := Int.mul_le_mul_of_nonneg_left h2 hn
  have m2 : n * lo ≤ n * k := Int.mul_le_mul_of_nonneg_left h1 hn
  have d := Int.mul_ediv_add_emod (n * k) 1000
  have e0 := Int.emod_nonneg (n * k) (by decide : (1000 : Int) ≠ 0)
  have e1 := Int.emod_lt_of_pos (n * k) (by decide : (0 : Int) < 1000)
  generalize n * k / 1000 = x at *
  constructor
  · unfold prLo
    have : (x - h) * 1000 / hi ≤ n := by
      have : (x - h) * 1000 / hi < n + 1 := (Int.ediv_lt_iff_lt_mul (by omega)).2 (by rw [Int.add_mul]; omega)
      omega
    omega
  · unfold prHi
    exact (Int.le_ediv_iff_mul_le (by omega)).2 (by omega)
/-- what is calibrated with it -/
theorem back_cal {n k lo hi h : Int} (hn : 0 ≤ n) (hlo : 900 ≤ lo) (h1 : lo ≤ k) (h2 : k ≤ hi) (hh : 1 ≤ h) (_hx : 0 ≤ n * k / 1000) :
    knLo lo n (n * k / 1000) h ≤ k ∧ k ≤ knHi hi n (n * k / 1000) h ∧ lo ≤ knLo lo n (n * k / 1000) h ∧ knHi hi n (n * k / 1000) h ≤ hi := by
  have d := Int.mul_ediv_add_emod (n * k) 1000
  have e0 := Int.emod_nonneg (n * k) (by decide : (1000 : Int) ≠ 0)
  have e1 := Int.emod_lt_of_pos (n * k) (by decide : (0 : Int) < 1000)
  generalize n * k / 1000 = x at *
  unfold knLo knHi
  rw [if_neg (by omega)]
  have a1 : ((x - h) * 1000).tdiv (n + 1) ≤ k := by
    have g := mxz ((x - h) * 1000) (n + 1) (by omega)
    have g2 : (x - h) * 1000 / (n + 1) ≤ k := by
      have : (x - h) * 1000 / (n + 1) < k + 1 := (Int.ediv_lt_iff_lt_mul (by omega)).2 (by
        have : (k + 1) * (n + 1) = n * k + k + n + 1 := by rw [Int.add_mul, Int.mul_add, Int.mul_comm k n]; omega
        omega)
      omega
    omega
  by_cases hn0 : n < 1
  · rw [if_pos hn0]
    omega
  · rw [if_neg hn0]
    have a2 : k ≤ cdiv ((x + h) * 1000) n := by
      unfold cdiv
      refine (Int.le_ediv_iff_mul_le (by omega)).2 ?_
      rw [Int.mul_comm k n]
      omega
    omega
set_option maxRecDepth 100000 in
set_option maxHeartbeats 4000000 in
theorem back_err (p : Pap) (t : Pt) (a c : Int) (w : World) (h : shE p t a c ≠ 0) :
    Calls Try.prog 12 #[p.v, t.v, .int .i64 a, .int .i64 c] w fun e w' => e = .returned (.bool true) ∧ Below w.heap.size w w' := by
  have d : (shE p t a c == 0) = false := by simpa using h
  have d' : (shE p t a c != 0) = true := by simpa using h
  clear h
  go_enter Try.func12, Try.ntmps12
  go_wp2_with fail
  refine (awake_any _).mono ?_
  rintro e w1 ⟨rfl, hb1⟩
  have hB1_0 : HasPap (p) (w.heap.size) w1 := HasPap.up (by unfold HasPap; go_simp) hb1 (by (try simp only [World.size_alloc]); omega)
  have hB1_1 : HasPt (t) (w.heap.size + 1) w1 := HasPt.up (by unfold HasPt; go_simp) hb1 (by (try simp only [World.size_alloc]); omega)
  have C1 : Below w.heap.size w w1 := by
    refine Below.trans ?_ (hb1.mono ?_)
    · repeat' (first | with_reducible exact Below.refl _ _ | with_reducible exact Below.refl _ _ | with_reducible refine set1 ?_ (by omega) _ _ | with_reducible refine Below.alloc ?_ (by (try simp only [World.size_alloc]); omega) _ | with_reducible refine below_drewN ?_ _)
    · (try simp only [World.size_alloc]); omega
  clear hb1
  obtain ⟨f1_0_0, f1_0_1, f1_0_2, f1_0_3, f1_0_4, f1_0_5, f1_0_6, f1_0_7, f1_0_8, f1_0_9⟩ := hB1_0
  have z1_0 : w.heap.size < w1.heap.size := World.block_lt_of_cell? _ _ f1_0_0
  obtain ⟨f1_1_0, f1_1_1, f1_1_2⟩ := hB1_1
  have z1_1 : w.heap.size + 1 < w1.heap.size := World.block_lt_of_cell? _ _ f1_1_0
  have zz1 := C1.size
  go_wp2_with fail
  refine (Shrink_any p t a c _).mono ?_
  rintro e w2 ⟨rfl, hb2⟩
  have hB2_0 : HasPap (p) (w.heap.size) w2 := HasPap.up (by unfold HasPap; go_simp) hb2 (by (try simp only [World.size_alloc, World.size_setCell]); omega)
  have hB2_1 : HasPt (t) (w.heap.size + 1) w2 := HasPt.up (by unfold HasPt; go_simp) hb2 (by (try simp only [World.size_alloc, World.size_setCell]); omega)
  have C2 : Below w.heap.size w w2 := by
    refine Below.trans ?_ (hb2.mono ?_)
    · repeat' (first | with_reducible exact Below.refl _ _ | with_reducible exact C1 | with_reducible refine set1 ?_ (by omega) _ _ | with_reducible refine Below.alloc ?_ (by (try simp only [World.size_alloc, World.size_setCell]); omega) _ | with_reducible refine below_drewN ?_ _)
    · (try simp only [World.size_alloc, World.size_setCell]); omega
  clear f1_0_0 f1_0_1 f1_0_2 f1_0_3 f1_0_4 f1_0_5 f1_0_6 f1_0_7 f1_0_8 f1_0_9 f1_1_0 f1_1_1 f1_1_2 hb2
  obtain ⟨f2_0_0, f2_0_1, f2_0_2, f2_0_3, f2_0_4, f2_0_5, f2_0_6, f2_0_7, f2_0_8, f2_0_9⟩ := hB2_0
  have z2_0 : w.heap.size < w2.heap.size := World.block_lt_of_cell? _ _ f2_0_0
  obtain ⟨f2_1_0, f2_1_1, f2_1_2⟩ := hB2_1
  have z2_1 : w.heap.size + 1 < w2.heap.size := World.block_lt_of_cell? _ _ f2_1_0
  have zz2 := C2.size
  go_wp2_with fail
  go_ret
  exact ⟨rfl, by
    repeat' (first | with_reducible exact Below.refl _ _ | with_reducible exact C2 | with_reducible refine set1 ?_ (by omega) _ _ | with_reducible refine Below.alloc ?_ (by (try simp only [World.size_alloc, World.size_setCell]); omega) _ | with_reducible refine below_drewN ?_ _)⟩
set_option maxRecDepth 100000 in
set_option maxHeartbeats 4000000 in
theorem back_thin (p : Pap) (t : Pt) (a c : Int) (w : World) (h : p.Ok) (ht : t.Ok) (hi : ShrIn p a c) (hs : (shrP t a c).Ok) (hh : t.half < 1) :
    Calls Try.prog 12 #[p.v, t.v, .int .i64 a, .int .i64 c] w fun e w' => e = .returned (.bool true) ∧ Below w.heap.size w w' := by
  go_enter Try.func12, Try.ntmps12
  go_wp2_with fail
  refine (awake_any _).mono ?_
  rintro e w1 ⟨rfl, hb1⟩
  have hB1_0 : HasPap (p) (w.heap.size) w1 := HasPap.up (by unfold HasPap; go_simp) hb1 (by (try simp only [World.size_alloc]); omega)
  have hB1_1 : HasPt (t) (w.heap.size + 1) w1 := HasPt.up (by unfold HasPt; go_simp) hb1 (by (try simp only [World.size_alloc]); omega)
  have C1 : Below w.heap.size w w1 := by
    refine Below.trans ?_ (hb1.mono ?_)
    · repeat' (first | with_reducible exact Below.refl _ _ | with_reducible exact Below.refl _ _ | with_reducible refine set1 ?_ (by omega) _ _ | with_reducible refine Below.alloc ?_ (by (try simp only [World.size_alloc]); omega) _ | with_reducible refine below_drewN ?_ _)
    · (try simp only [World.size_alloc]); omega
  clear hb1
  obtain ⟨f1_0_0, f1_0_1, f1_0_2, f1_0_3, f1_0_4, f1_0_5, f1_0_6, f1_0_7, f1_0_8, f1_0_9⟩ := hB1_0
  have z1_0 : w.heap.size < w1.heap.size := World.block_lt_of_cell? _ _ f1_0_0
  obtain ⟨f1_1_0, f1_1_1, f1_1_2⟩ := hB1_1
  have z1_1 : w.heap.size + 1 < w1.heap.size := World.block_lt_of_cell? _ _ f1_1_0
  have zz1 := C1.size
  go_wp2_with fail
  refine (Shrink_ok p t a c _ h ht hi hs).mono ?_
  rintro e w2 ⟨rfl, hb2⟩
  have hB2_0 : HasPap (p) (w.heap.size) w2 := HasPap.up (by unfold HasPap; go_simp) hb2 (by (try simp only [World.size_alloc, World.size_setCell]); omega)
  have hB2_1 : HasPt (t) (w.heap.size + 1) w2 := HasPt.up (by unfold HasPt; go_simp) hb2 (by (try simp only [World.size_alloc, World.size_setCell]); omega)
  have C2 : Below w.heap.size w w2 := by
    refine Below.trans ?_ (hb2.mono ?_)
    · repeat' (first | with_reducible exact Below.refl _ _ | with_reducible exact C1 | with_reducible refine set1 ?_ (by omega) _ _ | with_reducible refine Below.alloc ?_ (by (try simp only [World.size_alloc, World.size_setCell]); omega) _ | with_reducible refine below_drewN ?_ _)
    · (try simp only [World.size_alloc, World.size_setCell]); omega
  clear f1_0_0 f1_0_1 f1_0_2 f1_0_3 f1_0_4 f1_0_5 f1_0_6 f1_0_7 f1_0_8 f1_0_9 f1_1_0 f1_1_1 f1_1_2 hb2
  obtain ⟨f2_0_0, f2_0_1, f2_0_2, f2_0_3, f2_0_4, f2_0_5, f2_0_6, f2_0_7, f2_0_8, f2_0_9⟩ := hB2_0
  have z2_0 : w.heap.size < w2.heap.size := World.block_lt_of_cell? _ _ f2_0_0
  obtain ⟨f2_1_0, f2_1_1, f2_1_2⟩ := hB2_1
  have z2_1 : w.heap.size + 1 < w2.heap.size := World.block_lt_of_cell? _ _ f2_1_0
  have zz2 := C2.size
  go_wp2_with fail
  go_ret
  exact ⟨rfl, by
    repeat' (first | with_reducible exact Below.refl _ _ | with_reducible exact C2 | with_reducible refine set1 ?_ (by omega) _ _ | with_reducible refine Below.alloc ?_ (by (try simp only [World.size_alloc, World.size_setCell]); omega) _ | with_reducible refine below_drewN ?_ _)⟩
set_option maxRecDepth 100000 in
set_option maxHeartbeats 1000000 in
theorem back_core (p : Pap) (t x : Pt) (q : Pap) (a c l1 h1 l2 h2 : Int) (w : World)
    (K1 : Hid (∀ w, Calls Try.prog 48 #[p.v, t.v, .int .i64 a, .int .i64 c] w fun e w' => e = .returned (.tuple #[x.v, .int .i64 0]) ∧ Below w.heap.size w w'))
    (K2 : Hid (∀ w, Calls Try.prog 32 #[p.v, x.v] w fun e w' => e = .returned (.tuple #[.agg #[.int .i64 l1, .int .i64 h1], .int .i64 0]) ∧ Below w.heap.size w w'))
    (K3 : Hid (∀ w, Calls Try.prog 34 #[p.v, x.v] w fun e w' => e = .returned (.tuple #[.agg #[.int .i64 l2, .int .i64 h2], .int .i64 0]) ∧ Below w.heap.size w w'))
    (K4 : Hid (∀ w, Calls Try.prog 50 #[p.v, .int .i64 t.x, .int .i64 t.y, x.v] w fun e w' => e = .returned (.tuple #[q.v, .int .i64 0]) ∧ Below w.heap.size w w'))
    (g5 : decide (t.half < 1) = false) (g1 : decide (t.x < l1) = false) (g2 : decide (t.x > h1) = false) (g3 : decide (t.y < l2) = false) (g4 : decide (t.y > h2) = false)
    (k1 : decide (q.al ≤ a) = true) (k2 : decide (a ≤ q.ah) = true) (k3 : decide (q.cl ≤ c) = true) (k4 : decide (c ≤ q.ch) = true)
    (k5 : decide (q.al ≥ p.al) = true) (k6 : decide (q.ah ≤ p.ah) = true) (k7 : decide (q.cl ≥ p.cl) = true) (k8 : decide (q.ch ≤ p.ch) = true) :
    Calls Try.prog 12 #[p.v, t.v, .int .i64 a, .int .i64 c] w fun e w' => e = .returned (.bool true) ∧ Below w.heap.size w w' := by
  go_enter Try.func12, Try.ntmps12
  go_wp2_with fail
  refine (awake_any _).mono ?_
  rintro e w1 ⟨rfl, hb1⟩
  have hB1_0 : HasPap (p) (w.heap.size) w1 := HasPap.up (by unfold HasPap; go_simp) hb1 (by (try simp only [World.size_alloc]); omega)
  have hB1_1 : HasPt (t) (w.heap.size + 1) w1 := HasPt.up (by unfold HasPt; go_simp) hb1 (by (try simp only [World.size_alloc]); omega)
  have C1 : Below w.heap.size w w1 := by
    refine Below.trans ?_ (hb1.mono ?_)
    · repeat' (first | with_reducible exact Below.refl _ _ | with_reducible exact Below.refl _ _ | with_reducible refine set1 ?_ (by omega) _ _ | with_reducible refine Below.alloc ?_ (by (try simp only [World.size_alloc]); omega) _ | with_reducible refine below_drewN ?_ _)
    · (try simp only [World.size_alloc]); omega
  clear hb1
  obtain ⟨f1_0_0, f1_0_1, f1_0_2, f1_0_3, f1_0_4, f1_0_5, f1_0_6, f1_0_7, f1_0_8, f1_0_9⟩ := hB1_0
  have z1_0 : w.heap.size < w1.heap.size := World.block_lt_of_cell? _ _ f1_0_0
  obtain ⟨f1_1_0, f1_1_1, f1_1_2⟩ := hB1_1
  have z1_1 : w.heap.size + 1 < w1.heap.size := World.block_lt_of_cell? _ _ f1_1_0
  have zz1 := C1.size
  go_wp2_with fail
  refine (K1.out _).mono ?_
  rintro e w2 ⟨rfl, hb2⟩
  have hB2_0 : HasPap (p) (w.heap.size) w2 := HasPap.up (by unfold HasPap; go_simp) hb2 (by (try simp only [World.size_alloc, World.size_setCell]); omega)
  have hB2_1 : HasPt (t) (w.heap.size + 1) w2 := HasPt.up (by unfold HasPt; go_simp) hb2 (by (try simp only [World.size_alloc, World.size_setCell]); omega)
  have C2 : Below w.heap.size w w2 := by
    refine Below.trans ?_ (hb2.mono ?_)
    · repeat' (first | with_reducible exact Below.refl _ _ | with_reducible exact C1 | with_reducible refine set1 ?_ (by omega) _ _ | with_reducible refine Below.alloc ?_ (by (try simp only [World.size_alloc, World.size_setCell]); omega) _ | with_reducible refine below_drewN ?_ _)
    · (try simp only [World.size_alloc, World.size_setCell]); omega
  clear f1_0_0 f1_0_1 f1_0_2 f1_0_3 f1_0_4 f1_0_5 f1_0_6 f1_0_7 f1_0_8 f1_0_9 f1_1_0 f1_1_1 f1_1_2 hb2
  obtain ⟨f2_0_0, f2_0_1, f2_0_2, f2_0_3, f2_0_4, f2_0_5, f2_0_6, f2_0_7, f2_0_8, f2_0_9⟩ := hB2_0
  have z2_0 : w.heap.size < w2.heap.size := World.block_lt_of_cell? _ _ f2_0_0
  obtain ⟨f2_1_0, f2_1_1, f2_1_2⟩ := hB2_1
  have z2_1 : w.heap.size + 1 < w2.heap.size := World.block_lt_of_cell? _ _ f2_1_0
  have zz2 := C2.size
  go_wp2_with fail
  refine (K2.out _).mono ?_
  rintro e w3 ⟨rfl, hb3⟩
  have hB3_0 : HasPap (p) (w.heap.size) w3 := HasPap.up (by unfold HasPap; go_simp) hb3 (by (try simp only [World.size_alloc]); omega)
  have hB3_1 : HasPt (t) (w.heap.size + 1) w3 := HasPt.up (by unfold HasPt; go_simp) hb3 (by (try simp only [World.size_alloc]); omega)
  have hB3_2 : HasPt (x) (w2.heap.size) w3 := HasPt.up (by unfold HasPt; go_simp) hb3 (by (try simp only [World.size_alloc]); omega)
  have C3 : Below w.heap.size w w3 := by
    refine Below.trans ?_ (hb3.mono ?_)
    · repeat' (first | with_reducible exact Below.refl _ _ | with_reducible exact C2 | with_reducible refine set1 ?_ (by omega) _ _ | with_reducible refine Below.alloc ?_ (by (try simp only [World.size_alloc, World.size_setCell]); omega) _ | with_reducible refine below_drewN ?_ _)
    · (try simp only [World.size_alloc]); omega
  clear f2_0_0 f2_0_1 f2_0_2 f2_0_3 f2_0_4 f2_0_5 f2_0_6 f2_0_7 f2_0_8 f2_0_9 f2_1_0 f2_1_1 f2_1_2 hb3
  obtain ⟨f3_0_0, f3_0_1, f3_0_2, f3_0_3, f3_0_4, f3_0_5, f3_0_6, f3_0_7, f3_0_8, f3_0_9⟩ := hB3_0
  have z3_0 : w.heap.size < w3.heap.size := World.block_lt_of_cell? _ _ f3_0_0
  obtain ⟨f3_1_0, f3_1_1, f3_1_2⟩ := hB3_1
  have z3_1 : w.heap.size + 1 < w3.heap.size := World.block_lt_of_cell? _ _ f3_1_0
  obtain ⟨f3_2_0, f3_2_1, f3_2_2⟩ := hB3_2
  have z3_2 : w2.heap.size < w3.heap.size := World.block_lt_of_cell? _ _ f3_2_0
  have zz3 := C3.size
  go_wp2_with fail
  refine (K3.out _).mono ?_
  rintro e w4 ⟨rfl, hb4⟩
  have hB4_0 : HasPap (p) (w.heap.size) w4 := HasPap.up (by unfold HasPap; go_simp) hb4 (by (try simp only [World.size_alloc]); omega)
  have hB4_1 : HasPt (t) (w.heap.size + 1) w4 := HasPt.up (by unfold HasPt; go_simp) hb4 (by (try simp only [World.size_alloc]); omega)
  have hB4_2 : HasPt (x) (w2.heap.size) w4 := HasPt.up (by unfold HasPt; go_simp) hb4 (by (try simp only [World.size_alloc]); omega)
  have hB4_3 : HasSp (l1) (h1) (w3.heap.size) w4 := HasSp.up (by unfold HasSp; go_simp) hb4 (by (try simp only [World.size_alloc]); omega)
  have C4 : Below w.heap.size w w4 := by
    refine Below.trans ?_ (hb4.mono ?_)
    · repeat' (first | with_reducible exact Below.refl _ _ | with_reducible exact C3 | with_reducible refine set1 ?_ (by omega) _ _ | with_reducible refine Below.alloc ?_ (by (try simp only [World.size_alloc, World.size_setCell]); omega) _ | with_reducible refine below_drewN ?_ _)
    · (try simp only [World.size_alloc]); omega
  clear f3_0_0 f3_0_1 f3_0_2 f3_0_3 f3_0_4 f3_0_5 f3_0_6 f3_0_7 f3_0_8 f3_0_9 f3_1_0 f3_1_1 f3_1_2 f3_2_0 f3_2_1 f3_2_2 hb4
  obtain ⟨f4_0_0, f4_0_1, f4_0_2, f4_0_3, f4_0_4, f4_0_5, f4_0_6, f4_0_7, f4_0_8, f4_0_9⟩ := hB4_0
  have z4_0 : w.heap.size < w4.heap.size := World.block_lt_of_cell? _ _ f4_0_0
  obtain ⟨f4_1_0, f4_1_1, f4_1_2⟩ := hB4_1
  have z4_1 : w.heap.size + 1 < w4.heap.size := World.block_lt_of_cell? _ _ f4_1_0
  obtain ⟨f4_2_0, f4_2_1, f4_2_2⟩ := hB4_2
  have z4_2 : w2.heap.size < w4.heap.size := World.block_lt_of_cell? _ _ f4_2_0
  obtain ⟨f4_3_0, f4_3_1⟩ := hB4_3
  have z4_3 : w3.heap.size < w4.heap.size := World.block_lt_of_cell? _ _ f4_3_0
  have zz4 := C4.size
  go_wp2_with fail
  refine (K4.out _).mono ?_
  rintro e w5 ⟨rfl, hb5⟩
  have hB5_0 : HasPap (p) (w.heap.size) w5 := HasPap.up (by unfold HasPap; go_simp) hb5 (by (try simp only [World.size_alloc]); omega)
  have hB5_1 : HasPt (t) (w.heap.size + 1) w5 := HasPt.up (by unfold HasPt; go_simp) hb5 (by (try simp only [World.size_alloc]); omega)
  have hB5_2 : HasPt (x) (w2.heap.size) w5 := HasPt.up (by unfold HasPt; go_simp) hb5 (by (try simp only [World.size_alloc]); omega)
  have hB5_3 : HasSp (l1) (h1) (w3.heap.size) w5 := HasSp.up (by unfold HasSp; go_simp) hb5 (by (try simp only [World.size_alloc]); omega)
  have hB5_4 : HasSp (l2) (h2) (w4.heap.size) w5 := HasSp.up (by unfold HasSp; go_simp) hb5 (by (try simp only [World.size_alloc]); omega)
  have C5 : Below w.heap.size w w5 := by
    refine Below.trans ?_ (hb5.mono ?_)
    · repeat' (first | with_reducible exact Below.refl _ _ | with_reducible exact C4 | with_reducible refine set1 ?_ (by omega) _ _ | with_reducible refine Below.alloc ?_ (by (try simp only [World.size_alloc, World.size_setCell]); omega) _ | with_reducible refine below_drewN ?_ _)
    · (try simp only [World.size_alloc]); omega
  clear f4_0_0 f4_0_1 f4_0_2 f4_0_3 f4_0_4 f4_0_5 f4_0_6 f4_0_7 f4_0_8 f4_0_9 f4_1_0 f4_1_1 f4_1_2 f4_2_0 f4_2_1 f4_2_2 f4_3_0 f4_3_1 hb5
  obtain ⟨f5_0_0, f5_0_1, f5_0_2, f5_0_3, f5_0_4, f5_0_5, f5_0_6, f5_0_7, f5_0_8, f5_0_9⟩ := hB5_0
  have z5_0 : w.heap.size < w5.heap.size := World.block_lt_of_cell? _ _ f5_0_0
  obtain ⟨f5_1_0, f5_1_1, f5_1_2⟩ := hB5_1
  have z5_1 : w.heap.size + 1 < w5.heap.size := World.block_lt_of_cell? _ _ f5_1_0
  obtain ⟨f5_2_0, f5_2_1, f5_2_2⟩ := hB5_2
  have z5_2 : w2.heap.size < w5.heap.size := World.block_lt_of_cell? _ _ f5_2_0
  obtain ⟨f5_3_0, f5_3_1⟩ := hB5_3
  have z5_3 : w3.heap.size < w5.heap.size := World.block_lt_of_cell? _ _ f5_3_0
  obtain ⟨f5_4_0, f5_4_1⟩ := hB5_4
  have z5_4 : w4.heap.size < w5.heap.size := World.block_lt_of_cell? _ _ f5_4_0
  have zz5 := C5.size
  go_wp2_with fail
  go_ret
  exact ⟨rfl, by
    repeat' (first | with_reducible exact Below.refl _ _ | with_reducible exact C5 | with_reducible refine set1 ?_ (by omega) _ _ | with_reducible refine Below.alloc ?_ (by (try simp only [World.size_alloc, World.size_setCell]); omega) _ | with_reducible refine below_drewN ?_ _)⟩
theorem back_ok (p : Pap) (t : Pt) (a c : Int) (w : World) (h : p.Ok) (ht : t.Ok) (hi : ShrIn p a c) (hs : (shrP t a c).Ok) (hh : 1 ≤ t.half) :
    Calls Try.prog 12 #[p.v, t.v, .int .i64 a, .int .i64 c] w fun e w' => e = .returned (.bool true) ∧ Below w.heap.size w w' := by
  have h7 := h.along
  have h8 := h.across
  have tx := ht.x
  have ty := ht.y
  have sx := hs.x
  have sy := hs.y
  obtain ⟨a1, a2⟩ := back_along (n := t.x) (k := a) (lo := p.al) (hi := p.ah) (h := t.half) (by omega) (by omega) hi.1.1 hi.1.2 hh
  obtain ⟨b1, b2⟩ := back_along (n := t.y) (k := c) (lo := p.cl) (hi := p.ch) (h := t.half) (by omega) (by omega) hi.2.1 hi.2.2 hh
  obtain ⟨c1, c2, c3, c4⟩ := back_cal (n := t.x) (k := a) (lo := p.al) (hi := p.ah) (h := t.half) (by omega) (by omega) hi.1.1 hi.1.2 hh sx.1
  obtain ⟨d1, d2, d3, d4⟩ := back_cal (n := t.y) (k := c) (lo := p.cl) (hi := p.ch) (h := t.half) (by omega) (by omega) hi.2.1 hi.2.2 hh sy.1
  have HQ : CalOk (calP p t.x t.y (shrP t a c)) := ⟨Int.le_trans c1 c2, Int.le_trans d1 d2⟩
  exact back_core p t (shrP t a c) (calP p t.x t.y (shrP t a c)) a c (alongLo p (shrP t a c)) (alongHi p (shrP t a c)) (acrossLo p (shrP t a c)) (acrossHi p (shrP t a c)) w
    (Lib.hid fun w => Shrink_ok p t a c w h ht hi hs) (Lib.hid fun w => PAlong_ok p _ w h hs) (Lib.hid fun w => PAcross_ok p _ w h hs) (Lib.hid fun w => Calibrate_ok p t.x t.y _ w h hs (by omega) (by omega) HQ)
    (decide_eq_false (by omega)) (decide_eq_false (Int.not_lt.2 a1)) (decide_eq_false (Int.not_lt.2 a2)) (decide_eq_false (Int.not_lt.2 b1)) (decide_eq_false (Int.not_lt.2 b2))
    (decide_eq_true c1) (decide_eq_true c2) (decide_eq_true d1) (decide_eq_true d2) (decide_eq_true c3) (decide_eq_true c4) (decide_eq_true d3) (decide_eq_true d4)
theorem back_law (p : Pap) (t : Pt) (a c : Int) (w : World) :
    Calls Try.prog 12 #[p.v, t.v, .int .i64 a, .int .i64 c] w fun e w' => e = .returned (.bool true) ∧ Below w.heap.size w w' := by
  by_cases h : shE p t a c = 0
  · obtain ⟨h1, h2, h3, h4⟩ := shE_iff.1 h
    by_cases h5 : t.half < 1
    · exact back_thin p t a c w h1 h2 h3 h4 h5
    · exact back_ok p t a c w h1 h2 h3 h4 (by omega)
  · exact back_err p t a c w h
theorem back.own : ownKnob Try.prog.godebug = none := by kernel_rfl
set_option maxRecDepth 100000 in
theorem back_lifted (os : Os) (started : os.Started) (H : Type) (enc : TypeId × Value → H) :
    ReturnsInHanded {} Try.checked os 12 .any (Rows.paperBackSpec.pre6 enc Try.prog Try.f12 Rows.paperBackRow.domain false) (Rows.paperBackSpec.post enc Try.prog Try.f12 false true false false) := by
  refine returnsInHanded_of_change (C := Try.checked) back.own started (by kernel_rfl) Try.func12
    (ChangeSpec.witness6 (enc := enc) (C := Try.checked) false ⟨#[], #[.agg #[.int .i64 0, .int .i64 0, .int .i64 0, .int .i64 0, .int .i64 0, .int .i64 0, .int .i64 0, .int .i64 0, .int .i64 0, .int .i64 0], .agg #[.int .i64 0, .int .i64 0, .int .i64 0], .int .i64 0, .int .i64 0], []⟩ 8 (by kernel_rfl) (by kernel_rfl) (by kernel_rfl) (by kernel_rfl)) ?_
  intro W base args ds gs before hval0 hW hcnd _
  have hval : ∀ (j : Nat) t v, Try.f12.params[j]? = some t → args[j]? = some v → Value.okWide Try.prog W .any base t v := hval0
  have hW' := hW
  obtain ⟨p, q, hA0, hV, rfl, hfz, hnd⟩ := hW
  have hA : DataW.TrodAll enc Try.prog W 0 (fun _ => true) true Try.f12.params.toList args.toList ds p := hA0
  rw [Try.params12] at hA hval
  obtain ⟨v0, v1, v2, v3, d0, d1, d2, d3, p0, p1, p2, p3, rfl, rfl, rfl, h0, h1, h2, h3⟩ := trodAll_four hA
  obtain ⟨rfl, rfl⟩ := trodVars_none hV
  obtain ⟨a, rfl, rfl, rfl, wa⟩ := open_paper (hval 0 25 v0 rfl rfl) h0
  obtain ⟨b, rfl, rfl, rfl, wb⟩ := open_point (hval 1 44 v1 rfl rfl) h1
  obtain ⟨c, rfl, rfl, rfl, wc⟩ := open_int Try.underlying3 (hval 2 3 v2 rfl rfl) h2
  obtain ⟨d, rfl, rfl, rfl, wd⟩ := open_int Try.underlying3 (hval 3 3 v3 rfl rfl) h3
  clear hA0 hval0
  simp only [List.append_nil] at hW'
  refine (back_law a b c d W).mono fun e W' ⟨he, hw⟩ => ?_
  subst he
  exact ⟨_, rfl, [a.d, b.d, .lit (.int .i64 c), .lit (.int .i64 d)], [], _, [], [], [], hW', trodAll_mk1 (shut_bool Try.underlying4 true), trodAll_mk4 (shut_paper a wa) (shut_point b wb) (shut_int Try.underlying3 wc) (shut_int Try.underlying3 wd), rfl, hw.frame _, fun h => by cases h⟩
theorem back_holds : Rows.PaperBackSaid :=
  OpenClaim.holds_of_wide 12 Try.f12 rfl rfl rfl rfl rfl rfl rfl ⟨rfl, rfl, rfl, rfl, rfl⟩ rfl rfl rfl rfl rfl (by kernel_rfl) Try.func12 (by kernel_rfl)
    (of_decide_eq_true (by kernel_rfl)) (by unfold Func.isWrapper; first | (rw [if_pos (by decide +kernel)]; kernel_rfl) | (rw [if_neg (by decide +kernel)]; exact ⟨rfl, rfl⟩))
    (fun os started H enc _ => back_lifted os started H enc)
end Go.Proofs.Ytmeljcbefnojfaa
