import Derived.Test.YtmeljcbefnojfaaLvM
namespace Go.Proofs.Ytmeljcbefnojfaa
open Go.RowKit
set_option maxRecDepth 100000 in
set_option maxHeartbeats 4000000 in
theorem lv_eq_err (p : Pap) (l : Int) (w : World) (h : p.Ok) (h2 : lvE p l ≠ 0) :
    Calls Try.prog 9 #[p.v, .int .i64 p.height, .int .i64 l] w fun e w' => e = .returned (.bool true) ∧ Below w.heap.size w w' := by
  have hlo := h.low
  have hhe := h.height
  have lt := lev_top h
  have ln := lowst_top h
  obtain ⟨i0, i1, i2⟩ := lev_lowst h (l := p.high) ⟨by omega, by omega⟩
  have KL : Hid (∀ w, Calls Try.prog 42 #[p.v, .int .i64 p.height] w fun e w' => e = .returned (.tuple #[.int .i64 p.high, .int .i64 0]) ∧ Below w.heap.size w w') := Lib.hid (fun w => by
    have := Level_ok p p.height w h (by omega)
    rw [lt] at this; exact this)
  have KH : Hid (∀ w, Calls Try.prog 44 #[p.v, .int .i64 p.high] w fun e w' => e = .returned (.tuple #[.agg #[.int .i64 (lowst p p.high), .int .i64 p.height], .int .i64 0]) ∧ Below w.heap.size w w') := Lib.hid (fun w => by
    have := Heights_ok p p.high w h (by omega)
    rw [show min (lowst p (p.high + 1) - 1) p.height = p.height by omega] at this; exact this)
  have a1 : decide (p.height < lowst p p.high) = false := by simp; omega
  have a3 : decide (p.high < p.low) = false := by simp; omega
  clear lt ln i2
  have d2 : (lvE p l == 0) = false := by simpa using h2
  have d2' : (lvE p l != 0) = true := by simpa using h2
  clear h2
  go_enter Try.func9, Try.ntmps9
  go_wp2_with fail
  refine (awake_any _).mono ?_
  rintro e w1 ⟨rfl, hb1⟩
  have hP1 : HasPap p w.heap.size w1 := HasPap.up (by unfold HasPap; go_simp) hb1 (by simp only [World.size_alloc]; omega)
  have C1 : Below w.heap.size w w1 := (box1 w _).trans (hb1.mono (by simp only [World.size_alloc]; omega))
  clear hb1
  obtain ⟨p0, p1, p2, p3, p4, p5, p6, p7, p8, p9⟩ := hP1
  have z1 : w.heap.size < w1.heap.size := World.block_lt_of_cell? _ _ p0
  go_wp2_with fail
  refine (KL.out _).mono ?_
  rintro e w2 ⟨rfl, hb2⟩
  have hP2 : HasPap p w.heap.size w2 := HasPap.up (by unfold HasPap; go_simp) hb2 (by (try simp only [World.size_alloc]); omega)
  have C2 : Below w.heap.size w w2 := C1.trans (hb2.mono C1.size)
  clear p0 p1 p2 p3 p4 p5 p6 p7 p8 p9 hb2
  obtain ⟨p0, p1, p2, p3, p4, p5, p6, p7, p8, p9⟩ := hP2
  have z2 : w.heap.size < w2.heap.size := World.block_lt_of_cell? _ _ p0
  go_wp2_with fail
  refine (KH.out _).mono ?_
  rintro e w3 ⟨rfl, hb3⟩
  have hP3 : HasPap p w.heap.size w3 := HasPap.up (by unfold HasPap; go_simp) hb3 (by (try simp only [World.size_alloc]); omega)
  have C3 : Below w.heap.size w w3 := C2.trans (hb3.mono C2.size)
  clear p0 p1 p2 p3 p4 p5 p6 p7 p8 p9 hb3
  obtain ⟨p0, p1, p2, p3, p4, p5, p6, p7, p8, p9⟩ := hP3
  have z3 : w.heap.size < w3.heap.size := World.block_lt_of_cell? _ _ p0
  go_wp2_with fail
  refine (Level_arg p (p.height + 1) _ h (by omega)).mono ?_
  rintro e w4 ⟨rfl, hb4⟩
  have hP4 : HasPap p w.heap.size w4 := HasPap.up (by unfold HasPap; go_simp) hb4 (by (try simp only [World.size_alloc]); omega)
  have C4 : Below w.heap.size w w4 := C3.trans (((box1 w3 _).trans (hb4.mono (by simp only [World.size_alloc]; omega))).mono C3.size)
  clear p0 p1 p2 p3 p4 p5 p6 p7 p8 p9 hb4
  obtain ⟨p0, p1, p2, p3, p4, p5, p6, p7, p8, p9⟩ := hP4
  have z4 : w.heap.size < w4.heap.size := World.block_lt_of_cell? _ _ p0
  go_wp2_with fail
  refine (Heights_any p l _).mono ?_
  rintro e w5 ⟨rfl, hb5⟩
  have hP5 : HasPap p w.heap.size w5 := HasPap.up (by unfold HasPap; go_simp) hb5 (by (try simp only [World.size_alloc]); omega)
  have C5 : Below w.heap.size w w5 := C4.trans (hb5.mono C4.size)
  clear p0 p1 p2 p3 p4 p5 p6 p7 p8 p9 hb5
  obtain ⟨p0, p1, p2, p3, p4, p5, p6, p7, p8, p9⟩ := hP5
  have z5 : w.heap.size < w5.heap.size := World.block_lt_of_cell? _ _ p0
  go_wp2_with fail
  go_ret
  exact ⟨rfl, C5.alloc C5.size _⟩
set_option maxRecDepth 100000 in
set_option maxHeartbeats 4000000 in
theorem lv_eq_top (p : Pap) (w : World) (h : p.Ok)  :
    Calls Try.prog 9 #[p.v, .int .i64 p.height, .int .i64 p.high] w fun e w' => e = .returned (.bool true) ∧ Below w.heap.size w w' := by
  have hlo := h.low
  have hhe := h.height
  have lt := lev_top h
  have ln := lowst_top h
  obtain ⟨i0, i1, i2⟩ := lev_lowst h (l := p.high) ⟨by omega, by omega⟩
  have KL : Hid (∀ w, Calls Try.prog 42 #[p.v, .int .i64 p.height] w fun e w' => e = .returned (.tuple #[.int .i64 p.high, .int .i64 0]) ∧ Below w.heap.size w w') := Lib.hid (fun w => by
    have := Level_ok p p.height w h (by omega)
    rw [lt] at this; exact this)
  have KH : Hid (∀ w, Calls Try.prog 44 #[p.v, .int .i64 p.high] w fun e w' => e = .returned (.tuple #[.agg #[.int .i64 (lowst p p.high), .int .i64 p.height], .int .i64 0]) ∧ Below w.heap.size w w') := Lib.hid (fun w => by
    have := Heights_ok p p.high w h (by omega)
    rw [show min (lowst p (p.high + 1) - 1) p.height = p.height by omega] at this; exact this)
  have a1 : decide (p.height < lowst p p.high) = false := by simp; omega
  have a3 : decide (p.high < p.low) = false := by simp; omega
  clear lt ln i2
  have tt := lev_top h
  have tn := lowst_top h
  obtain ⟨j0, j1, j2⟩ := lev_lowst h (l := p.high) ⟨by omega, by omega⟩
  have M1 : Hid (∀ w, Calls Try.prog 44 #[p.v, .int .i64 p.high] w fun e w' => e = .returned (.tuple #[.agg #[.int .i64 (lowst p p.high), .int .i64 p.height], .int .i64 0]) ∧ Below w.heap.size w w') := Lib.hid (fun w => by
    have := Heights_ok p p.high w h (by omega)
    rw [show min (lowst p (p.high + 1) - 1) p.height = p.height by omega] at this; exact this)
  have M2 : Hid (∀ w, Calls Try.prog 42 #[p.v, .int .i64 (lowst p p.high)] w fun e w' => e = .returned (.tuple #[.int .i64 p.high, .int .i64 0]) ∧ Below w.heap.size w w') := Lib.hid (fun w => by
    have := Level_ok p (lowst p p.high) w h ⟨j0, j1⟩
    rw [j2] at this; exact this)
  have M3 : Hid (∀ w, Calls Try.prog 42 #[p.v, .int .i64 p.height] w fun e w' => e = .returned (.tuple #[.int .i64 p.high, .int .i64 0]) ∧ Below w.heap.size w w') := Lib.hid (fun w => by
    have := Level_ok p p.height w h (by omega)
    rw [tt] at this; exact this)
  have b1 : decide (lowst p p.high > p.height) = false := by simp; omega
  clear tt tn j2
  go_enter Try.func9, Try.ntmps9
  go_wp2_with fail
  refine (awake_any _).mono ?_
  rintro e w1 ⟨rfl, hb1⟩
  have hP1 : HasPap p w.heap.size w1 := HasPap.up (by unfold HasPap; go_simp) hb1 (by simp only [World.size_alloc]; omega)
  have C1 : Below w.heap.size w w1 := (box1 w _).trans (hb1.mono (by simp only [World.size_alloc]; omega))
  clear hb1
  obtain ⟨p0, p1, p2, p3, p4, p5, p6, p7, p8, p9⟩ := hP1
  have z1 : w.heap.size < w1.heap.size := World.block_lt_of_cell? _ _ p0
  go_wp2_with fail
  refine (KL.out _).mono ?_
  rintro e w2 ⟨rfl, hb2⟩
  have hP2 : HasPap p w.heap.size w2 := HasPap.up (by unfold HasPap; go_simp) hb2 (by (try simp only [World.size_alloc]); omega)
  have C2 : Below w.heap.size w w2 := C1.trans (hb2.mono C1.size)
  clear p0 p1 p2 p3 p4 p5 p6 p7 p8 p9 hb2
  obtain ⟨p0, p1, p2, p3, p4, p5, p6, p7, p8, p9⟩ := hP2
  have z2 : w.heap.size < w2.heap.size := World.block_lt_of_cell? _ _ p0
  go_wp2_with fail
  refine (KH.out _).mono ?_
  rintro e w3 ⟨rfl, hb3⟩
  have hP3 : HasPap p w.heap.size w3 := HasPap.up (by unfold HasPap; go_simp) hb3 (by (try simp only [World.size_alloc]); omega)
  have C3 : Below w.heap.size w w3 := C2.trans (hb3.mono C2.size)
  clear p0 p1 p2 p3 p4 p5 p6 p7 p8 p9 hb3
  obtain ⟨p0, p1, p2, p3, p4, p5, p6, p7, p8, p9⟩ := hP3
  have z3 : w.heap.size < w3.heap.size := World.block_lt_of_cell? _ _ p0
  go_wp2_with fail
  refine (Level_arg p (p.height + 1) _ h (by omega)).mono ?_
  rintro e w4 ⟨rfl, hb4⟩
  have hP4 : HasPap p w.heap.size w4 := HasPap.up (by unfold HasPap; go_simp) hb4 (by (try simp only [World.size_alloc]); omega)
  have C4 : Below w.heap.size w w4 := C3.trans (((box1 w3 _).trans (hb4.mono (by simp only [World.size_alloc]; omega))).mono C3.size)
  clear p0 p1 p2 p3 p4 p5 p6 p7 p8 p9 hb4
  obtain ⟨p0, p1, p2, p3, p4, p5, p6, p7, p8, p9⟩ := hP4
  have z4 : w.heap.size < w4.heap.size := World.block_lt_of_cell? _ _ p0
  go_wp2_with fail
  refine (M1.out _).mono ?_
  rintro e w5 ⟨rfl, hb5⟩
  have hP5 : HasPap p w.heap.size w5 := HasPap.up (by unfold HasPap; go_simp) hb5 (by (try simp only [World.size_alloc]); omega)
  have C5 : Below w.heap.size w w5 := C4.trans (hb5.mono C4.size)
  clear p0 p1 p2 p3 p4 p5 p6 p7 p8 p9 hb5
  obtain ⟨p0, p1, p2, p3, p4, p5, p6, p7, p8, p9⟩ := hP5
  have z5 : w.heap.size < w5.heap.size := World.block_lt_of_cell? _ _ p0
  go_wp2_with fail
  refine (M2.out _).mono ?_
  rintro e w6 ⟨rfl, hb6⟩
  have hP6 : HasPap p w.heap.size w6 := HasPap.up (by unfold HasPap; go_simp) hb6 (by (try simp only [World.size_alloc]); omega)
  have C6 : Below w.heap.size w w6 := C5.trans (((box1 w5 _).trans (hb6.mono (by simp only [World.size_alloc]; omega))).mono C5.size)
  have e60 : w6.cell? ⟨w5.heap.size, 0, none⟩ = some (.int .i64 (lowst p p.high)) := cell_up hb6 (by (try simp only [World.size_alloc]); omega) (by go_simp)
  have e61 : w6.cell? ⟨w5.heap.size, 1, none⟩ = some (.int .i64 (p.height)) := cell_up hb6 (by (try simp only [World.size_alloc]); omega) (by go_simp)
  have y6 : w5.heap.size < w6.heap.size := World.block_lt_of_cell? _ _ e60
  clear p0 p1 p2 p3 p4 p5 p6 p7 p8 p9 hb6
  obtain ⟨p0, p1, p2, p3, p4, p5, p6, p7, p8, p9⟩ := hP6
  have z6 : w.heap.size < w6.heap.size := World.block_lt_of_cell? _ _ p0
  go_wp2_with fail
  refine (M3.out _).mono ?_
  rintro e w7 ⟨rfl, hb7⟩
  have hP7 : HasPap p w.heap.size w7 := HasPap.up (by unfold HasPap; go_simp) hb7 (by (try simp only [World.size_alloc]); omega)
  have C7 : Below w.heap.size w w7 := C6.trans (hb7.mono C6.size)
  have e70 : w7.cell? ⟨w5.heap.size, 0, none⟩ = some (.int .i64 (lowst p p.high)) := cell_up hb7 (by (try simp only [World.size_alloc]); omega) (by go_simp)
  have e71 : w7.cell? ⟨w5.heap.size, 1, none⟩ = some (.int .i64 (p.height)) := cell_up hb7 (by (try simp only [World.size_alloc]); omega) (by go_simp)
  have y7 : w5.heap.size < w7.heap.size := World.block_lt_of_cell? _ _ e70
  clear e60 e61
  clear p0 p1 p2 p3 p4 p5 p6 p7 p8 p9 hb7
  obtain ⟨p0, p1, p2, p3, p4, p5, p6, p7, p8, p9⟩ := hP7
  have z7 : w.heap.size < w7.heap.size := World.block_lt_of_cell? _ _ p0
  go_wp2_with fail
  go_ret
  exact ⟨rfl, C7⟩
set_option maxRecDepth 100000 in
set_option maxHeartbeats 4000000 in
theorem lv_eq_low (p : Pap) (w : World) (h : p.Ok)  :
    Calls Try.prog 9 #[p.v, .int .i64 p.height, .int .i64 p.low] w fun e w' => e = .returned (.bool true) ∧ Below w.heap.size w w' := by
  have hlo := h.low
  have hhe := h.height
  have lt := lev_top h
  have ln := lowst_top h
  obtain ⟨i0, i1, i2⟩ := lev_lowst h (l := p.high) ⟨by omega, by omega⟩
  have KL : Hid (∀ w, Calls Try.prog 42 #[p.v, .int .i64 p.height] w fun e w' => e = .returned (.tuple #[.int .i64 p.high, .int .i64 0]) ∧ Below w.heap.size w w') := Lib.hid (fun w => by
    have := Level_ok p p.height w h (by omega)
    rw [lt] at this; exact this)
  have KH : Hid (∀ w, Calls Try.prog 44 #[p.v, .int .i64 p.high] w fun e w' => e = .returned (.tuple #[.agg #[.int .i64 (lowst p p.high), .int .i64 p.height], .int .i64 0]) ∧ Below w.heap.size w w') := Lib.hid (fun w => by
    have := Heights_ok p p.high w h (by omega)
    rw [show min (lowst p (p.high + 1) - 1) p.height = p.height by omega] at this; exact this)
  have a1 : decide (p.height < lowst p p.high) = false := by simp; omega
  have a3 : decide (p.high < p.low) = false := by simp; omega
  clear lt ln i2
  obtain ⟨j0, j1, j2⟩ := lev_lowst h (l := p.low) (by omega)
  obtain ⟨k0, k1, k2⟩ := lev_next h (l := p.low) (by omega)
  have M1 : Hid (∀ w, Calls Try.prog 44 #[p.v, .int .i64 p.low] w fun e w' => e = .returned (.tuple #[.agg #[.int .i64 (lowst p p.low), .int .i64 (lowst p (p.low + 1) - 1)], .int .i64 0]) ∧ Below w.heap.size w w') := Lib.hid (fun w => by
    have := Heights_ok p p.low w h (by omega)
    rw [show min (lowst p (p.low + 1) - 1) p.height = lowst p (p.low + 1) - 1 by omega] at this; exact this)
  have M2 : Hid (∀ w, Calls Try.prog 42 #[p.v, .int .i64 (lowst p p.low)] w fun e w' => e = .returned (.tuple #[.int .i64 p.low, .int .i64 0]) ∧ Below w.heap.size w w') := Lib.hid (fun w => by
    have := Level_ok p (lowst p p.low) w h ⟨j0, j1⟩
    rw [j2] at this; exact this)
  have M3 : Hid (∀ w, Calls Try.prog 42 #[p.v, .int .i64 (lowst p (p.low + 1) - 1)] w fun e w' => e = .returned (.tuple #[.int .i64 p.low, .int .i64 0]) ∧ Below w.heap.size w w') := Lib.hid (fun w => by
    have := Level_ok p (lowst p (p.low + 1) - 1) w h (by omega)
    rw [k2] at this; exact this)
  have b1 : decide (lowst p p.low > lowst p (p.low + 1) - 1) = false := by simp; omega
  have b2 : (p.low == p.high) = false := by simp; omega
  have b3 : (lowst p (p.low + 1) == lowst p (p.low + 1) - 1 + 1) = true := by simp
  have b5 : (lowst p p.low == 0) = true := by simp [lowst_low h]
  have b4 : decide (p.low > p.low) = false := by simp
  clear j2 k2
  go_enter Try.func9, Try.ntmps9
  go_wp2_with fail
  refine (awake_any _).mono ?_
  rintro e w1 ⟨rfl, hb1⟩
  have hP1 : HasPap p w.heap.size w1 := HasPap.up (by unfold HasPap; go_simp) hb1 (by simp only [World.size_alloc]; omega)
  have C1 : Below w.heap.size w w1 := (box1 w _).trans (hb1.mono (by simp only [World.size_alloc]; omega))
  clear hb1
  obtain ⟨p0, p1, p2, p3, p4, p5, p6, p7, p8, p9⟩ := hP1
  have z1 : w.heap.size < w1.heap.size := World.block_lt_of_cell? _ _ p0
  go_wp2_with fail
  refine (KL.out _).mono ?_
  rintro e w2 ⟨rfl, hb2⟩
  have hP2 : HasPap p w.heap.size w2 := HasPap.up (by unfold HasPap; go_simp) hb2 (by (try simp only [World.size_alloc]); omega)
  have C2 : Below w.heap.size w w2 := C1.trans (hb2.mono C1.size)
  clear p0 p1 p2 p3 p4 p5 p6 p7 p8 p9 hb2
  obtain ⟨p0, p1, p2, p3, p4, p5, p6, p7, p8, p9⟩ := hP2
  have z2 : w.heap.size < w2.heap.size := World.block_lt_of_cell? _ _ p0
  go_wp2_with fail
  refine (KH.out _).mono ?_
  rintro e w3 ⟨rfl, hb3⟩
  have hP3 : HasPap p w.heap.size w3 := HasPap.up (by unfold HasPap; go_simp) hb3 (by (try simp only [World.size_alloc]); omega)
  have C3 : Below w.heap.size w w3 := C2.trans (hb3.mono C2.size)
  clear p0 p1 p2 p3 p4 p5 p6 p7 p8 p9 hb3
  obtain ⟨p0, p1, p2, p3, p4, p5, p6, p7, p8, p9⟩ := hP3
  have z3 : w.heap.size < w3.heap.size := World.block_lt_of_cell? _ _ p0
  go_wp2_with fail
  refine (Level_arg p (p.height + 1) _ h (by omega)).mono ?_
  rintro e w4 ⟨rfl, hb4⟩
  have hP4 : HasPap p w.heap.size w4 := HasPap.up (by unfold HasPap; go_simp) hb4 (by (try simp only [World.size_alloc]); omega)
  have C4 : Below w.heap.size w w4 := C3.trans (((box1 w3 _).trans (hb4.mono (by simp only [World.size_alloc]; omega))).mono C3.size)
  clear p0 p1 p2 p3 p4 p5 p6 p7 p8 p9 hb4
  obtain ⟨p0, p1, p2, p3, p4, p5, p6, p7, p8, p9⟩ := hP4
  have z4 : w.heap.size < w4.heap.size := World.block_lt_of_cell? _ _ p0
  go_wp2_with fail
  refine (M1.out _).mono ?_
  rintro e w5 ⟨rfl, hb5⟩
  have hP5 : HasPap p w.heap.size w5 := HasPap.up (by unfold HasPap; go_simp) hb5 (by (try simp only [World.size_alloc]); omega)
  have C5 : Below w.heap.size w w5 := C4.trans (hb5.mono C4.size)
  clear p0 p1 p2 p3 p4 p5 p6 p7 p8 p9 hb5
  obtain ⟨p0, p1, p2, p3, p4, p5, p6, p7, p8, p9⟩ := hP5
  have z5 : w.heap.size < w5.heap.size := World.block_lt_of_cell? _ _ p0
  go_wp2_with fail
  refine (M2.out _).mono ?_
  rintro e w6 ⟨rfl, hb6⟩
  have hP6 : HasPap p w.heap.size w6 := HasPap.up (by unfold HasPap; go_simp) hb6 (by (try simp only [World.size_alloc]); omega)
  have C6 : Below w.heap.size w w6 := C5.trans (((box1 w5 _).trans (hb6.mono (by simp only [World.size_alloc]; omega))).mono C5.size)
  have e60 : w6.cell? ⟨w5.heap.size, 0, none⟩ = some (.int .i64 (lowst p p.low)) := cell_up hb6 (by (try simp only [World.size_alloc]); omega) (by go_simp)
  have e61 : w6.cell? ⟨w5.heap.size, 1, none⟩ = some (.int .i64 (lowst p (p.low + 1) - 1)) := cell_up hb6 (by (try simp only [World.size_alloc]); omega) (by go_simp)
  have y6 : w5.heap.size < w6.heap.size := World.block_lt_of_cell? _ _ e60
  clear p0 p1 p2 p3 p4 p5 p6 p7 p8 p9 hb6
  obtain ⟨p0, p1, p2, p3, p4, p5, p6, p7, p8, p9⟩ := hP6
  have z6 : w.heap.size < w6.heap.size := World.block_lt_of_cell? _ _ p0
  go_wp2_with fail
  refine (M3.out _).mono ?_
  rintro e w7 ⟨rfl, hb7⟩
  have hP7 : HasPap p w.heap.size w7 := HasPap.up (by unfold HasPap; go_simp) hb7 (by (try simp only [World.size_alloc]); omega)
  have C7 : Below w.heap.size w w7 := C6.trans (hb7.mono C6.size)
  have e70 : w7.cell? ⟨w5.heap.size, 0, none⟩ = some (.int .i64 (lowst p p.low)) := cell_up hb7 (by (try simp only [World.size_alloc]); omega) (by go_simp)
  have e71 : w7.cell? ⟨w5.heap.size, 1, none⟩ = some (.int .i64 (lowst p (p.low + 1) - 1)) := cell_up hb7 (by (try simp only [World.size_alloc]); omega) (by go_simp)
  have y7 : w5.heap.size < w7.heap.size := World.block_lt_of_cell? _ _ e70
  clear e60 e61
  clear p0 p1 p2 p3 p4 p5 p6 p7 p8 p9 hb7
  obtain ⟨p0, p1, p2, p3, p4, p5, p6, p7, p8, p9⟩ := hP7
  have z7 : w.heap.size < w7.heap.size := World.block_lt_of_cell? _ _ p0
  go_wp2_with fail
  refine (Heights_ok p (p.low + 1) _ h (by omega)).mono ?_
  rintro e w8 ⟨rfl, hb8⟩
  have hP8 : HasPap p w.heap.size w8 := HasPap.up (by unfold HasPap; go_simp) hb8 (by (try simp only [World.size_alloc]); omega)
  have C8 : Below w.heap.size w w8 := C7.trans (hb8.mono C7.size)
  have e80 : w8.cell? ⟨w5.heap.size, 0, none⟩ = some (.int .i64 (lowst p p.low)) := cell_up hb8 (by (try simp only [World.size_alloc]); omega) (by go_simp)
  have e81 : w8.cell? ⟨w5.heap.size, 1, none⟩ = some (.int .i64 (lowst p (p.low + 1) - 1)) := cell_up hb8 (by (try simp only [World.size_alloc]); omega) (by go_simp)
  have y8 : w5.heap.size < w8.heap.size := World.block_lt_of_cell? _ _ e80
  clear e70 e71
  clear p0 p1 p2 p3 p4 p5 p6 p7 p8 p9 hb8
  obtain ⟨p0, p1, p2, p3, p4, p5, p6, p7, p8, p9⟩ := hP8
  have z8 : w.heap.size < w8.heap.size := World.block_lt_of_cell? _ _ p0
  go_wp2_with fail
  go_ret
  exact ⟨rfl, C8.alloc C8.size _⟩
set_option maxRecDepth 100000 in
set_option maxHeartbeats 4000000 in
theorem lv_eq_mid (p : Pap) (l : Int) (w : World) (h : p.Ok) (h2 : p.low < l ∧ l < p.high) :
    Calls Try.prog 9 #[p.v, .int .i64 p.height, .int .i64 l] w fun e w' => e = .returned (.bool true) ∧ Below w.heap.size w w' := by
  have hlo := h.low
  have hhe := h.height
  have lt := lev_top h
  have ln := lowst_top h
  obtain ⟨i0, i1, i2⟩ := lev_lowst h (l := p.high) ⟨by omega, by omega⟩
  have KL : Hid (∀ w, Calls Try.prog 42 #[p.v, .int .i64 p.height] w fun e w' => e = .returned (.tuple #[.int .i64 p.high, .int .i64 0]) ∧ Below w.heap.size w w') := Lib.hid (fun w => by
    have := Level_ok p p.height w h (by omega)
    rw [lt] at this; exact this)
  have KH : Hid (∀ w, Calls Try.prog 44 #[p.v, .int .i64 p.high] w fun e w' => e = .returned (.tuple #[.agg #[.int .i64 (lowst p p.high), .int .i64 p.height], .int .i64 0]) ∧ Below w.heap.size w w') := Lib.hid (fun w => by
    have := Heights_ok p p.high w h (by omega)
    rw [show min (lowst p (p.high + 1) - 1) p.height = p.height by omega] at this; exact this)
  have a1 : decide (p.height < lowst p p.high) = false := by simp; omega
  have a3 : decide (p.high < p.low) = false := by simp; omega
  clear lt ln i2
  obtain ⟨j0, j1, j2⟩ := lev_lowst h (l := l) (by omega)
  obtain ⟨k0, k1, k2⟩ := lev_next h (l := l) (by omega)
  have M1 : Hid (∀ w, Calls Try.prog 44 #[p.v, .int .i64 l] w fun e w' => e = .returned (.tuple #[.agg #[.int .i64 (lowst p l), .int .i64 (lowst p (l + 1) - 1)], .int .i64 0]) ∧ Below w.heap.size w w') := Lib.hid (fun w => by
    have := Heights_ok p l w h (by omega)
    rw [show min (lowst p (l + 1) - 1) p.height = lowst p (l + 1) - 1 by omega] at this; exact this)
  have M2 : Hid (∀ w, Calls Try.prog 42 #[p.v, .int .i64 (lowst p l)] w fun e w' => e = .returned (.tuple #[.int .i64 l, .int .i64 0]) ∧ Below w.heap.size w w') := Lib.hid (fun w => by
    have := Level_ok p (lowst p l) w h ⟨j0, j1⟩
    rw [j2] at this; exact this)
  have M3 : Hid (∀ w, Calls Try.prog 42 #[p.v, .int .i64 (lowst p (l + 1) - 1)] w fun e w' => e = .returned (.tuple #[.int .i64 l, .int .i64 0]) ∧ Below w.heap.size w w') := Lib.hid (fun w => by
    have := Level_ok p (lowst p (l + 1) - 1) w h (by omega)
    rw [k2] at this; exact this)
  have b1 : decide (lowst p l > lowst p (l + 1) - 1) = false := by simp; omega
  have b2 : (l == p.high) = false := by simp; omega
  have b3 : (lowst p (l + 1) == lowst p (l + 1) - 1 + 1) = true := by simp
  have b4 : decide (l > p.low) = true := by simp; omega
  clear j2 k2
  go_enter Try.func9, Try.ntmps9
  go_wp2_with fail
  refine (awake_any _).mono ?_
  rintro e w1 ⟨rfl, hb1⟩
  have hP1 : HasPap p w.heap.size w1 := HasPap.up (by unfold HasPap; go_simp) hb1 (by simp only [World.size_alloc]; omega)
  have C1 : Below w.heap.size w w1 := (box1 w _).trans (hb1.mono (by simp only [World.size_alloc]; omega))
  clear hb1
  obtain ⟨p0, p1, p2, p3, p4, p5, p6, p7, p8, p9⟩ := hP1
  have z1 : w.heap.size < w1.heap.size := World.block_lt_of_cell? _ _ p0
  go_wp2_with fail
  refine (KL.out _).mono ?_
  rintro e w2 ⟨rfl, hb2⟩
  have hP2 : HasPap p w.heap.size w2 := HasPap.up (by unfold HasPap; go_simp) hb2 (by (try simp only [World.size_alloc]); omega)
  have C2 : Below w.heap.size w w2 := C1.trans (hb2.mono C1.size)
  clear p0 p1 p2 p3 p4 p5 p6 p7 p8 p9 hb2
  obtain ⟨p0, p1, p2, p3, p4, p5, p6, p7, p8, p9⟩ := hP2
  have z2 : w.heap.size < w2.heap.size := World.block_lt_of_cell? _ _ p0
  go_wp2_with fail
  refine (KH.out _).mono ?_
  rintro e w3 ⟨rfl, hb3⟩
  have hP3 : HasPap p w.heap.size w3 := HasPap.up (by unfold HasPap; go_simp) hb3 (by (try simp only [World.size_alloc]); omega)
  have C3 : Below w.heap.size w w3 := C2.trans (hb3.mono C2.size)
  clear p0 p1 p2 p3 p4 p5 p6 p7 p8 p9 hb3
  obtain ⟨p0, p1, p2, p3, p4, p5, p6, p7, p8, p9⟩ := hP3
  have z3 : w.heap.size < w3.heap.size := World.block_lt_of_cell? _ _ p0
  go_wp2_with fail
  refine (Level_arg p (p.height + 1) _ h (by omega)).mono ?_
  rintro e w4 ⟨rfl, hb4⟩
  have hP4 : HasPap p w.heap.size w4 := HasPap.up (by unfold HasPap; go_simp) hb4 (by (try simp only [World.size_alloc]); omega)
  have C4 : Below w.heap.size w w4 := C3.trans (((box1 w3 _).trans (hb4.mono (by simp only [World.size_alloc]; omega))).mono C3.size)
  clear p0 p1 p2 p3 p4 p5 p6 p7 p8 p9 hb4
  obtain ⟨p0, p1, p2, p3, p4, p5, p6, p7, p8, p9⟩ := hP4
  have z4 : w.heap.size < w4.heap.size := World.block_lt_of_cell? _ _ p0
  go_wp2_with fail
  refine (M1.out _).mono ?_
  rintro e w5 ⟨rfl, hb5⟩
  have hP5 : HasPap p w.heap.size w5 := HasPap.up (by unfold HasPap; go_simp) hb5 (by (try simp only [World.size_alloc]); omega)
  have C5 : Below w.heap.size w w5 := C4.trans (hb5.mono C4.size)
  clear p0 p1 p2 p3 p4 p5 p6 p7 p8 p9 hb5
  obtain ⟨p0, p1, p2, p3, p4, p5, p6, p7, p8, p9⟩ := hP5
  have z5 : w.heap.size < w5.heap.size := World.block_lt_of_cell? _ _ p0
  go_wp2_with fail
  refine (M2.out _).mono ?_
  rintro e w6 ⟨rfl, hb6⟩
  have hP6 : HasPap p w.heap.size w6 := HasPap.up (by unfold HasPap; go_simp) hb6 (by (try simp only [World.size_alloc]); omega)
  have C6 : Below w.heap.size w w6 := C5.trans (((box1 w5 _).trans (hb6.mono (by simp only [World.size_alloc]; omega))).mono C5.size)
  have e60 : w6.cell? ⟨w5.heap.size, 0, none⟩ = some (.int .i64 (lowst p l)) := cell_up hb6 (by (try simp only [World.size_alloc]); omega) (by go_simp)
  have e61 : w6.cell? ⟨w5.heap.size, 1, none⟩ = some (.int .i64 (lowst p (l + 1) - 1)) := cell_up hb6 (by (try simp only [World.size_alloc]); omega) (by go_simp)
  have y6 : w5.heap.size < w6.heap.size := World.block_lt_of_cell? _ _ e60
  clear p0 p1 p2 p3 p4 p5 p6 p7 p8 p9 hb6
  obtain ⟨p0, p1, p2, p3, p4, p5, p6, p7, p8, p9⟩ := hP6
  have z6 : w.heap.size < w6.heap.size := World.block_lt_of_cell? _ _ p0
  go_wp2_with fail
  refine (M3.out _).mono ?_
  rintro e w7 ⟨rfl, hb7⟩
  have hP7 : HasPap p w.heap.size w7 := HasPap.up (by unfold HasPap; go_simp) hb7 (by (try simp only [World.size_alloc]); omega)
  have C7 : Below w.heap.size w w7 := C6.trans (hb7.mono C6.size)
  have e70 : w7.cell? ⟨w5.heap.size, 0, none⟩ = some (.int .i64 (lowst p l)) := cell_up hb7 (by (try simp only [World.size_alloc]); omega) (by go_simp)
  have e71 : w7.cell? ⟨w5.heap.size, 1, none⟩ = some (.int .i64 (lowst p (l + 1) - 1)) := cell_up hb7 (by (try simp only [World.size_alloc]); omega) (by go_simp)
  have y7 : w5.heap.size < w7.heap.size := World.block_lt_of_cell? _ _ e70
  clear e60 e61
  clear p0 p1 p2 p3 p4 p5 p6 p7 p8 p9 hb7
  obtain ⟨p0, p1, p2, p3, p4, p5, p6, p7, p8, p9⟩ := hP7
  have z7 : w.heap.size < w7.heap.size := World.block_lt_of_cell? _ _ p0
  go_wp2_with fail
  refine (Heights_ok p (l + 1) _ h (by omega)).mono ?_
  rintro e w8 ⟨rfl, hb8⟩
  have hP8 : HasPap p w.heap.size w8 := HasPap.up (by unfold HasPap; go_simp) hb8 (by (try simp only [World.size_alloc]); omega)
  have C8 : Below w.heap.size w w8 := C7.trans (hb8.mono C7.size)
  have e80 : w8.cell? ⟨w5.heap.size, 0, none⟩ = some (.int .i64 (lowst p l)) := cell_up hb8 (by (try simp only [World.size_alloc]); omega) (by go_simp)
  have e81 : w8.cell? ⟨w5.heap.size, 1, none⟩ = some (.int .i64 (lowst p (l + 1) - 1)) := cell_up hb8 (by (try simp only [World.size_alloc]); omega) (by go_simp)
  have y8 : w5.heap.size < w8.heap.size := World.block_lt_of_cell? _ _ e80
  clear e70 e71
  clear p0 p1 p2 p3 p4 p5 p6 p7 p8 p9 hb8
  obtain ⟨p0, p1, p2, p3, p4, p5, p6, p7, p8, p9⟩ := hP8
  have z8 : w.heap.size < w8.heap.size := World.block_lt_of_cell? _ _ p0
  go_wp2_with fail
  go_ret
  exact ⟨rfl, C8.alloc C8.size _⟩
end Go.Proofs.Ytmeljcbefnojfaa
