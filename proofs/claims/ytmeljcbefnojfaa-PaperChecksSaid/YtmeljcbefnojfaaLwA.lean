import Derived.Test.YtmeljcbefnojfaaAwa
namespace Go.Proofs.Ytmeljcbefnojfaa
open Go.RowKit
theorem arc_sym (p : Pap) (y : Int) : arcOf p (p.height - y) = arcOf p y := by
  unfold arcOf
  rw [show p.height - (p.height - y) = y by omega, Int.mul_comm]
theorem arc_mid {p : Pap} {y : Int} (h : p.Ok) (hy : 0 ≤ y ∧ y ≤ p.height) : arcOf p y ≤ arcOf p (p.height / 2) := by
  by_cases hm : y ≤ p.height / 2
  · exact arc_up h hy.1 hm (Int.le_refl _)
  · rw [← arc_sym p y]
    exact arc_up h (by omega) (by omega) (Int.le_refl _)
theorem div_step {n d D : Int} (hD : 1 ≤ D) (hd : d ≤ D) : (n + d) / D ≤ n / D + 1 := by
  have e : n / D + 1 = (n + D) / D := by rw [Int.add_ediv_of_dvd_right (Int.dvd_refl D), Int.ediv_self (by omega)]
  rw [e]
  exact Int.ediv_le_ediv (by omega) (by omega)
theorem arc_step {p : Pap} {y : Int} (h : p.Ok) (hy : 0 ≤ y ∧ y < p.height) : arcOf p (y + 1) - arcOf p y ≤ 1 ∧ arcOf p y - arcOf p (y + 1) ≤ 1 := by
  unfold arcOf
  by_cases hr : p.radius = 0
  · rw [if_pos hr, if_pos hr]; omega
  · rw [if_neg hr, if_neg hr]
    have h3 := h.radius
    have h2 := h.height
    have e : (y + 1) * (p.height - (y + 1)) = y * (p.height - y) + (p.height - 2 * y - 1) := by
      simp only [Int.mul_sub, Int.add_mul, Int.mul_add]
      omega
    rw [e]
    have a1 := div_step (n := y * (p.height - y)) (d := p.height - 2 * y - 1) (D := 2 * p.radius) (by omega) (by omega)
    have a2 := div_step (n := y * (p.height - y) + (p.height - 2 * y - 1)) (d := -(p.height - 2 * y - 1)) (D := 2 * p.radius) (by omega) (by omega)
    rw [show y * (p.height - y) + (p.height - 2 * y - 1) + -(p.height - 2 * y - 1) = y * (p.height - y) by omega] at a2
    omega
set_option maxRecDepth 100000 in
set_option maxHeartbeats 2000000 in
theorem arcs_err (p : Pap) (y : Int) (w : World) (h : htE p y ≠ 0) :
    Calls Try.prog 10 #[p.v, .int .i64 y] w fun e w' => e = .returned (.bool true) ∧ Below w.heap.size w w' := by
  have d : (htE p y == 0) = false := by simpa using h
  have d' : (htE p y != 0) = true := by simpa using h
  clear h
  go_enter Try.func10, Try.ntmps10
  go_wp2_with fail
  refine (awake_any _).mono ?_
  rintro e w1 ⟨rfl, hb1⟩
  obtain ⟨r1, -⟩ := bcell hb1
  go_wp2_with fail
  refine (Arc_any p y _).mono ?_
  rintro e w2 ⟨rfl, hb2⟩
  go_wp2_with fail
  go_ret
  exact ⟨rfl, ((box1 w _).trans (hb1.mono (by simp only [World.size_alloc]; omega))).trans (hb2.mono (by have := hb1.size; simp only [World.size_alloc] at this; omega))⟩
set_option maxRecDepth 100000 in
set_option maxHeartbeats 2000000 in
theorem arcs_ok (p : Pap) (y : Int) (w : World) (h : p.Ok) (hy : 0 ≤ y ∧ y ≤ p.height) :
    Calls Try.prog 10 #[p.v, .int .i64 y] w fun e w' => e = .returned (.bool true) ∧ Below w.heap.size w w' := by
  have hh := h.height
  have f1 := arc_sym p y
  have f2 := arc_mid h hy
  obtain ⟨g1, g2⟩ := arcOf_bd h hy
  obtain ⟨g3, g4⟩ := arcOf_bd h (y := p.height / 2) (by omega)
  have d1 : decide (arcOf p y > arcOf p (p.height / 2)) = false := by simpa using f2
  have d2 : decide (arcOf p y < 0) = false := by simpa using g1
  have K : Hid (∀ w, Calls Try.prog 40 #[p.v, .int .i64 (p.height - y)] w fun e w' => e = .returned (.tuple #[.int .i64 (arcOf p y), .int .i64 0]) ∧ Below w.heap.size w w') := Lib.hid (fun w => by
    have := Arc_ok p (p.height - y) w h (by omega)
    rw [f1] at this; exact this)
  clear f1 f2
  obtain ⟨hh1, hh2⟩ := hh
  obtain ⟨hy1, hy2⟩ := hy
  by_cases hlt : y < p.height
  · obtain ⟨st1, st2⟩ := arc_step h ⟨hy1, hlt⟩
    obtain ⟨g5, g6⟩ := arcOf_bd h (y := y + 1) (by omega)
    have e1 : (y == p.height) = false := by simp; omega
    have e2 : decide (arcOf p (y + 1) - arcOf p y ≤ 1) = true := by simpa using st1
    have e3 : decide (arcOf p y - arcOf p (y + 1) ≤ 1) = true := by simpa using st2
    go_enter Try.func10, Try.ntmps10
    go_wp2_with fail
    refine (awake_any _).mono ?_
    rintro e w1 ⟨rfl, hb1⟩
    have hP1 : HasPap p w.heap.size w1 := HasPap.up (by unfold HasPap; go_simp) hb1 (by simp only [World.size_alloc]; omega)
    have C1 : Below w.heap.size w w1 := (box1 w _).trans (hb1.mono (by simp only [World.size_alloc]; omega))
    clear hb1
    obtain ⟨p0, p1, p2, p3, p4, p5, p6, p7, p8, p9⟩ := hP1
    go_wp2_with fail
    refine (Arc_ok p y _ h ⟨hy1, hy2⟩).mono ?_
    rintro e w2 ⟨rfl, hb2⟩
    have hP2 : HasPap p w.heap.size w2 := HasPap.up ⟨p0, p1, p2, p3, p4, p5, p6, p7, p8, p9⟩ hb2 (World.block_lt_of_cell? _ _ p0)
    have C2 := C1.trans (hb2.mono C1.size)
    clear p0 p1 p2 p3 p4 p5 p6 p7 p8 p9 hb2
    obtain ⟨p0, p1, p2, p3, p4, p5, p6, p7, p8, p9⟩ := hP2
    go_wp2_with fail
    refine (K.out _).mono ?_
    rintro e w3 ⟨rfl, hb3⟩
    have hP3 : HasPap p w.heap.size w3 := HasPap.up ⟨p0, p1, p2, p3, p4, p5, p6, p7, p8, p9⟩ hb3 (World.block_lt_of_cell? _ _ p0)
    have C3 := C2.trans (hb3.mono C2.size)
    clear p0 p1 p2 p3 p4 p5 p6 p7 p8 p9 hb3
    obtain ⟨p0, p1, p2, p3, p4, p5, p6, p7, p8, p9⟩ := hP3
    go_wp2_with fail
    refine (Arc_ok p (p.height / 2) _ h (by omega)).mono ?_
    rintro e w4 ⟨rfl, hb4⟩
    have hP4 : HasPap p w.heap.size w4 := HasPap.up ⟨p0, p1, p2, p3, p4, p5, p6, p7, p8, p9⟩ hb4 (World.block_lt_of_cell? _ _ p0)
    have C4 := C3.trans (hb4.mono C3.size)
    clear p0 p1 p2 p3 p4 p5 p6 p7 p8 p9 hb4
    obtain ⟨p0, p1, p2, p3, p4, p5, p6, p7, p8, p9⟩ := hP4
    go_wp2_with fail
    refine (Arc_ok p (y + 1) _ h (by omega)).mono ?_
    rintro e w5 ⟨rfl, hb5⟩
    have hP5 : HasPap p w.heap.size w5 := HasPap.up ⟨p0, p1, p2, p3, p4, p5, p6, p7, p8, p9⟩ hb5 (World.block_lt_of_cell? _ _ p0)
    have C5 := C4.trans (hb5.mono C4.size)
    clear p0 p1 p2 p3 p4 p5 p6 p7 p8 p9 hb5
    obtain ⟨p0, p1, p2, p3, p4, p5, p6, p7, p8, p9⟩ := hP5
    go_wp2_with fail
    go_ret
    exact ⟨rfl, C5⟩
  · obtain rfl : y = p.height := by omega
    go_enter Try.func10, Try.ntmps10
    go_wp2_with fail
    refine (awake_any _).mono ?_
    rintro e w1 ⟨rfl, hb1⟩
    have hP1 : HasPap p w.heap.size w1 := HasPap.up (by unfold HasPap; go_simp) hb1 (by simp only [World.size_alloc]; omega)
    have C1 : Below w.heap.size w w1 := (box1 w _).trans (hb1.mono (by simp only [World.size_alloc]; omega))
    clear hb1
    obtain ⟨p0, p1, p2, p3, p4, p5, p6, p7, p8, p9⟩ := hP1
    go_wp2_with fail
    refine (Arc_ok p p.height _ h ⟨hy1, hy2⟩).mono ?_
    rintro e w2 ⟨rfl, hb2⟩
    have hP2 : HasPap p w.heap.size w2 := HasPap.up ⟨p0, p1, p2, p3, p4, p5, p6, p7, p8, p9⟩ hb2 (World.block_lt_of_cell? _ _ p0)
    have C2 := C1.trans (hb2.mono C1.size)
    clear p0 p1 p2 p3 p4 p5 p6 p7 p8 p9 hb2
    obtain ⟨p0, p1, p2, p3, p4, p5, p6, p7, p8, p9⟩ := hP2
    have K0 := K.out
    rw [Int.sub_self] at K0
    have HK0 := Lib.hid K0
    clear K0
    go_wp2_with fail
    refine (HK0.out _).mono ?_
    rintro e w3 ⟨rfl, hb3⟩
    have hP3 : HasPap p w.heap.size w3 := HasPap.up ⟨p0, p1, p2, p3, p4, p5, p6, p7, p8, p9⟩ hb3 (World.block_lt_of_cell? _ _ p0)
    have C3 := C2.trans (hb3.mono C2.size)
    clear p0 p1 p2 p3 p4 p5 p6 p7 p8 p9 hb3
    obtain ⟨p0, p1, p2, p3, p4, p5, p6, p7, p8, p9⟩ := hP3
    go_wp2_with fail
    refine (Arc_ok p (p.height / 2) _ h (by omega)).mono ?_
    rintro e w4 ⟨rfl, hb4⟩
    have hP4 : HasPap p w.heap.size w4 := HasPap.up ⟨p0, p1, p2, p3, p4, p5, p6, p7, p8, p9⟩ hb4 (World.block_lt_of_cell? _ _ p0)
    have C4 := C3.trans (hb4.mono C3.size)
    clear p0 p1 p2 p3 p4 p5 p6 p7 p8 p9 hb4
    obtain ⟨p0, p1, p2, p3, p4, p5, p6, p7, p8, p9⟩ := hP4
    go_wp2_with fail
    refine (Arc_arg p (p.height + 1) _ h (by omega)).mono ?_
    rintro e w5 ⟨rfl, hb5⟩
    have hP5 : HasPap p w.heap.size w5 := HasPap.up ⟨p0, p1, p2, p3, p4, p5, p6, p7, p8, p9⟩ hb5 (World.block_lt_of_cell? _ _ p0)
    have C5 := C4.trans (hb5.mono C4.size)
    clear p0 p1 p2 p3 p4 p5 p6 p7 p8 p9 hb5
    obtain ⟨p0, p1, p2, p3, p4, p5, p6, p7, p8, p9⟩ := hP5
    go_wp2_with fail
    go_ret
    exact ⟨rfl, C5⟩
theorem arcs_law (p : Pap) (y : Int) (w : World) :
    Calls Try.prog 10 #[p.v, .int .i64 y] w fun e w' => e = .returned (.bool true) ∧ Below w.heap.size w w' := by
  by_cases h : htE p y = 0
  · obtain ⟨h1, h2⟩ := htE_iff.1 h
    exact arcs_ok p y w h1 h2
  · exact arcs_err p y w h
end Go.Proofs.Ytmeljcbefnojfaa
